package fletcher_test

import (
	"bytes"
	"math"
	"math/rand"
	"slices"
	"testing"

	"waypoint/fletcher"
)

// P8.3: sealed strings, written out; what the two bytes were before has no effect.
func TestSeal(t *testing.T) {
	for _, c := range []struct {
		b    []byte
		at   int
		want []byte
	}{
		{[]byte{0, 0}, 0, []byte{0, 0}},
		{[]byte{255, 255}, 0, []byte{0, 0}},
		{[]byte{3, 200}, 0, []byte{0, 0}},
		{[]byte{1, 2, 9, 9}, 2, []byte{1, 2, 248, 4}},
		{[]byte{9, 9, 1}, 0, []byte{1, 253, 1}},
		{[]byte{1, 9, 9}, 1, []byte{1, 253, 1}},
		{[]byte{0, 255, 7, 255, 0}, 2, []byte{0, 255, 0, 0, 0}},
		{[]byte{255, 7, 7, 255}, 1, []byte{255, 0, 0, 255}},
		{[]byte{128, 0, 0}, 1, []byte{128, 254, 128}},
	} {
		if got := expectSeal(t, c.b, c.at); !bytes.Equal(got, c.want) {
			t.Errorf("Seal(%v, %d): %v, want %v", c.b, c.at, got, c.want)
		}
	}
}

// P8.3: all strings of up to 6 bytes, at each of their places, and at those next to them.
func TestSealEvery(t *testing.T) {
	for n := range 7 {
		for _, b := range everyString(n, 0, 1, 127, 254, 255) {
			for at := range n - 1 {
				expectSeal(t, b, at)
			}
			for _, at := range []int{-2, -1, max(n-1, 0), n, n + 1} {
				expectNoSeal(t, b, at)
			}
		}
	}
}

// P8.3: long strings, at places before which or behind which there is any number of bytes.
func TestSealLong(t *testing.T) {
	random := rand.New(rand.NewSource(83))
	for _, n := range lengths() {
		for _, m := range lengths() {
			b := bytes.Repeat([]byte{254}, n+2+m)
			if random.Intn(2) == 0 {
				random.Read(b)
			}
			expectSeal(t, b, n)
		}
	}
	for at := range 600 {
		b := make([]byte, 602)
		random.Read(b)
		expectSeal(t, b, at)
	}
}

// P8.3: of all pairs of numbers from 0 to 254, exactly the one that Seal returns seals a string.
func TestSealUnique(t *testing.T) {
	random := rand.New(rand.NewSource(833))
	for range 20 {
		b := append(scatter(random, 20), 1, 2)
		at := random.Intn(len(b) - 1)
		want := expectSeal(t, b, at)
		found := 0
		for x := range 255 {
			for y := range 255 {
				b[at], b[at+1] = byte(x), byte(y)
				ok := fletcher.Check(b)
				if ok != bytes.Equal(b, want) {
					t.Fatalf("Check(%v): %t, though Seal returned %v", b, ok, want)
				}
				if ok {
					found++
				}
			}
		}
		if found != 1 {
			t.Errorf("%v is sealed by %d pairs at %d", b, found, at)
		}
	}
}

// P8.3: a string that is sealed already, by numbers from 0 to 254, stays as it is, at each place.
func TestSealAgain(t *testing.T) {
	random := rand.New(rand.NewSource(834))
	for range 300 {
		b := append(scatter(random, 40), 1, 2)
		for i, c := range b {
			b[i] = c % 255
		}
		once := expectSeal(t, b, random.Intn(len(b)-1))
		for at := range len(b) - 1 {
			if again := expectSeal(t, once, at); !bytes.Equal(again, once) {
				t.Errorf("Seal(%v, %d): %v", once, at, again)
			}
		}
	}
}

// P8.3: indices far beyond a string, also those that are a permitted one modulo 255 or with an overflow.
func TestSealRange(t *testing.T) {
	for _, b := range [][]byte{nil, {}, {1}, {1, 2}, {1, 2, 3}, make([]byte, 300)} {
		n := len(b)
		for _, at := range []int{math.MinInt, math.MinInt + 1, -1 << 32, -255, -256, -254, -n - 1, -2, -1, n + 255, 1 << 32, math.MaxInt - 1, math.MaxInt} {
			expectNoSeal(t, b, at)
		}
	}
	for n := range 600 {
		b := make([]byte, n+1)
		expectNoSeal(t, b, n)
		expectNoSeal(t, b, n+1)
	}
	// Bytes behind the end, in the same memory, do not count.
	expectNoSeal(t, make([]byte, 2, 8), 1)
	expectNoSeal(t, make([]byte, 0, 8), 0)
}

// P8.3: a sealed string is new memory, also if nothing has changed.
func TestSealNewMemory(t *testing.T) {
	for _, b := range [][]byte{{1, 2, 9, 9}, {1, 2, 248, 4}, {0, 0}, append(make([]byte, 0, 64), 5, 6, 7)} {
		given := slices.Clone(b)
		got := expectSeal(t, b, len(b)-2)
		other := expectSeal(t, b, len(b)-2)
		kept := slices.Clone(other)
		for i := range got {
			got[i] ^= 255
		}
		if !bytes.Equal(b, given) || !bytes.Equal(other, kept) {
			t.Errorf("a result for %v shares memory: %v, %v", given, b, other)
		}
		for i := range b {
			b[i] ^= 255
		}
		if !bytes.Equal(other, kept) {
			t.Errorf("the result for %v changed with it, to %v", given, other)
		}
		rest := b[len(b):cap(b)]
		if !bytes.Equal(rest, make([]byte, len(rest))) {
			t.Errorf("Seal wrote behind %v", given)
		}
	}
}

// someSealed returns sealed strings, some of which have bytes 255, also in the place of sealing zeros.
func someSealed(t *testing.T, random *rand.Rand, limit int) [][]byte {
	t.Helper()
	all := [][]byte{{0, 0}, {0, 255}, {255, 0}, {255, 255}, {0}, {255}, {1, 253, 1}, {255, 1, 253, 1, 0}, make([]byte, limit), bytes.Repeat([]byte{0, 255}, limit/2)}
	for range 40 {
		b := append(scatter(random, limit), 1, 2)
		b = expectSeal(t, b, random.Intn(len(b)-1))
		for i, c := range b {
			if c == 0 && random.Intn(2) == 0 {
				b[i] = 255
			}
		}
		all = append(all, b)
	}
	return all
}

// P8.4, P8.5: a sealed string with one byte changed to any other one is not sealed, unless by 0 and 255.
func TestOneByte(t *testing.T) {
	for _, b := range someSealed(t, rand.New(rand.NewSource(85)), 60) {
		if !fletcher.Check(b) {
			t.Errorf("Check(%v): false", b)
		}
		for i, c := range b {
			for x := range 256 {
				b[i] = byte(x)
				if got, want := fletcher.Check(b), b[i] == c || zeros(b[i], c); got != want {
					t.Errorf("Check(%v), with %d in the place of %d: %t", b, x, c, got)
				}
			}
			b[i] = c
		}
	}
}

// P8.4, P8.5: a sealed string with two neighbouring bytes exchanged is not sealed, unless they are equal, or 0 and 255.
func TestExchange(t *testing.T) {
	for _, b := range someSealed(t, rand.New(rand.NewSource(855)), 700) {
		for i := range len(b) - 1 {
			b[i], b[i+1] = b[i+1], b[i]
			if got, want := fletcher.Check(b), b[i] == b[i+1] || zeros(b[i], b[i+1]); got != want {
				t.Errorf("Check(%s), with the bytes %d and %d exchanged: %t", short(b), i, i+1, got)
			}
			b[i], b[i+1] = b[i+1], b[i]
		}
	}
}

// P8.5: every pair of neighbouring bytes, exchanged within a sealed string.
func TestExchangeEvery(t *testing.T) {
	for x := range 256 {
		for y := range 256 {
			b := expectSeal(t, []byte{7, byte(x), byte(y), 0, 0, 9}, 3)
			b[1], b[2] = b[2], b[1]
			if got, want := fletcher.Check(b), x == y || zeros(byte(x), byte(y)); got != want {
				t.Errorf("Check(%v): %t", b, got)
			}
		}
	}
}
