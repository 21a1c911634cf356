package fletcher_test

import (
	"bytes"
	"fmt"
	"math"
	"math/big"
	"math/rand"
	"slices"
	"testing"

	"waypoint/api"
	"waypoint/fletcher"
)

// sums returns the sums of a byte string by the chapter's definition, with numbers that need no reduction on the way.
func sums(b []byte) (first, second int) {
	var x, y int64
	for i, c := range b {
		x += int64(c)
		y += int64(len(b)-i) * int64(c)
	}
	return int(x % 255), int(y % 255)
}

// reduced returns the number from 0 to 254 that is equal to n modulo 255.
func reduced(n int) int {
	return int(new(big.Int).Mod(big.NewInt(int64(n)), big.NewInt(255)).Int64())
}

// sealed tells whether both sums of a byte string are 0.
func sealed(b []byte) bool {
	first, second := sums(b)
	return first == 0 && second == 0
}

// zeros tells whether two bytes are 0 and 255, which count the same.
func zeros(a, b byte) bool {
	return a == 0 && b == 255 || a == 255 && b == 0
}

// equals returns ten numbers that are equal modulo 255 to n, a number from 0 to 254, the least and the greatest ones included.
func equals(n int) []int {
	least := math.MinInt + reduced(n-reduced(math.MinInt))
	greatest := math.MaxInt - reduced(reduced(math.MaxInt)-n)
	return []int{n, n - 510, n + 255, n - 255, n + 255<<20, n - 255<<20, least, least + 255, greatest - 255, greatest}
}

// everyString returns all strings of n of the given bytes.
func everyString(n int, of ...byte) [][]byte {
	all := [][]byte{nil}
	for range n {
		var longer [][]byte
		for _, b := range all {
			for _, c := range of {
				longer = append(longer, append(slices.Clone(b), c))
			}
		}
		all = longer
	}
	return all
}

// scatter returns a random string of at most limit bytes, in some of which only few different bytes occur.
func scatter(random *rand.Rand, limit int) []byte {
	b := make([]byte, random.Intn(limit+1))
	random.Read(b)
	if random.Intn(3) == 0 {
		few := []byte{0, 255, 1, 254}[:1+random.Intn(4)]
		for i := range b {
			b[i] = few[int(b[i])%len(few)]
		}
	}
	return b
}

// lengths returns numbers of bytes: small ones, and those next to the multiples of the modulus and to the powers of two.
func lengths() []int {
	return []int{0, 1, 2, 3, 4, 5, 253, 254, 255, 256, 257, 509, 510, 511, 512, 1000, 5802, 5803, 65024, 65025, 65026, 65535, 65536, 65537}
}

// short returns the beginning of a byte string's text.
func short(b []byte) string {
	s := fmt.Sprint(b)
	return s[:min(len(s), 100)]
}

// expectSum checks the sums of a byte string, whether it is sealed, and that it does not change.
func expectSum(t *testing.T, b []byte) {
	t.Helper()
	given := slices.Clone(b)
	wantFirst, wantSecond := sums(b)
	if first, second := fletcher.Sum(b); first != wantFirst || second != wantSecond {
		t.Errorf("Sum(%s) of %d bytes: %d %d, want %d %d", short(given), len(b), first, second, wantFirst, wantSecond)
	}
	if got := fletcher.Check(b); got != sealed(given) {
		t.Errorf("Check(%s) of %d bytes: %t", short(given), len(b), got)
	}
	if !bytes.Equal(b, given) {
		t.Errorf("Sum or Check changed %s to %s", short(given), short(b))
	}
}

// expectUpdate checks that sums are continued to wanted ones, and that the bytes do not change.
func expectUpdate(t *testing.T, first, second int, b []byte, wantFirst, wantSecond int) {
	t.Helper()
	given := slices.Clone(b)
	if x, y := fletcher.Update(first, second, b); x != wantFirst || y != wantSecond {
		t.Errorf("Update(%d, %d, %s): %d %d, want %d %d", first, second, short(given), x, y, wantFirst, wantSecond)
	}
	if !bytes.Equal(b, given) {
		t.Errorf("Update changed %s to %s", short(given), short(b))
	}
}

// expectJoin checks that sums are joined to wanted ones.
func expectJoin(t *testing.T, a, b [2]int, n, wantFirst, wantSecond int) {
	t.Helper()
	if x, y := fletcher.Join(a, b, n); x != wantFirst || y != wantSecond {
		t.Errorf("Join(%v, %v, %d): %d %d, want %d %d", a, b, n, x, y, wantFirst, wantSecond)
	}
}

// expectParts checks that the sums of a string are those of its two parts, continued and joined.
func expectParts(t *testing.T, b []byte, at int) {
	t.Helper()
	first, second := sums(b)
	x, y := fletcher.Sum(b[:at])
	expectUpdate(t, x, y, b[at:], first, second)
	v, w := fletcher.Sum(b[at:])
	expectJoin(t, [2]int{x, y}, [2]int{v, w}, len(b)-at, first, second)
}

// expectSeal checks a sealed byte string, that only two of its bytes may differ, and that the given one does not change; it returns the sealed one.
func expectSeal(t *testing.T, b []byte, at int) []byte {
	t.Helper()
	given := slices.Clone(b)
	got, e := fletcher.Seal(b, at)
	if e != api.OK || len(got) != len(b) {
		t.Fatalf("Seal(%s, %d): %d bytes, error %d", short(given), at, len(got), e)
	}
	if !sealed(got) || !fletcher.Check(got) || got[at] == 255 || got[at+1] == 255 {
		t.Errorf("Seal(%s, %d): %s, with the bytes %d and %d, is not sealed", short(given), at, short(got), got[at], got[at+1])
	}
	if !bytes.Equal(got[:at], given[:at]) || !bytes.Equal(got[at+2:], given[at+2:]) {
		t.Errorf("Seal(%s, %d): %s, with other changes", short(given), at, short(got))
	}
	if !bytes.Equal(b, given) {
		t.Errorf("Seal changed %s to %s", short(given), short(b))
	}
	return got
}

// expectNoSeal checks that a byte string has no bytes to seal at an index, which gives no result, and does not change.
func expectNoSeal(t *testing.T, b []byte, at int) {
	t.Helper()
	given := slices.Clone(b)
	if got, e := fletcher.Seal(b, at); e != api.ErrRange || len(got) != 0 {
		t.Errorf("Seal(%s, %d): %s, error %d, want ErrRange", short(given), at, short(got), e)
	}
	if !bytes.Equal(b, given) {
		t.Errorf("Seal changed %s to %s", short(given), short(b))
	}
}
