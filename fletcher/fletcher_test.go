package fletcher_test

import (
	"bytes"
	"math"
	"math/rand"
	"slices"
	"testing"

	"waypoint/fletcher"
)

// The examples of the chapter.
func TestExamples(t *testing.T) {
	if first, second := fletcher.Sum([]byte{1, 2, 3}); first != 6 || second != 10 {
		t.Errorf("Sum: %d %d", first, second)
	}
	if got := expectSeal(t, []byte{1, 2, 0, 0}, 2); !bytes.Equal(got, []byte{1, 2, 248, 4}) {
		t.Errorf("Seal: %v", got)
	}
}

// P8.1, P8.4: sums, written out.
func TestSum(t *testing.T) {
	for _, c := range []struct {
		b             []byte
		first, second int
	}{
		{nil, 0, 0}, {[]byte{}, 0, 0}, {[]byte{0}, 0, 0}, {[]byte{1}, 1, 1}, {[]byte{254}, 254, 254}, {[]byte{255}, 0, 0},
		{[]byte{0, 0}, 0, 0}, {[]byte{1, 0}, 1, 2}, {[]byte{0, 1}, 1, 1}, {[]byte{2, 1}, 3, 5}, {[]byte{1, 254}, 0, 1}, {[]byte{254, 1}, 0, 254},
		{[]byte{128, 0}, 128, 1}, {[]byte{127, 128}, 0, 127}, {[]byte{255, 255, 255}, 0, 0}, {[]byte{255, 1, 255}, 1, 2},
		{[]byte{200, 100}, 45, 245}, {[]byte{1, 2, 248, 4}, 0, 0}, {[]byte{0, 0, 7}, 7, 7}, {[]byte{7, 0, 0}, 7, 21},
	} {
		expectSum(t, c.b)
		if first, second := fletcher.Sum(c.b); first != c.first || second != c.second {
			t.Errorf("Sum(%v): %d %d, want %d %d", c.b, first, second, c.first, c.second)
		}
		if got := fletcher.Check(c.b); got != (c.first == 0 && c.second == 0) {
			t.Errorf("Check(%v): %t", c.b, got)
		}
	}
}

// P8.1, P8.4: all strings of one byte and of two, and all of up to 6 of the bytes at the ends and in the middle.
func TestSumEvery(t *testing.T) {
	for a := range 256 {
		expectSum(t, []byte{byte(a)})
		for b := range 256 {
			expectSum(t, []byte{byte(a), byte(b)})
		}
	}
	for n := range 7 {
		for _, b := range everyString(n, 0, 1, 127, 128, 254, 255) {
			expectSum(t, b)
		}
	}
}

// P8.1, P8.4: strings whose sums are great before they are reduced, also the longest values that layer 7 permits.
func TestSumLong(t *testing.T) {
	random := rand.New(rand.NewSource(81))
	for _, n := range append(lengths(), 1<<20, 3_000_017) {
		for _, c := range []byte{0, 1, 128, 254, 255} {
			expectSum(t, bytes.Repeat([]byte{c}, n))
		}
		b := make([]byte, n)
		random.Read(b)
		expectSum(t, b)
	}
}

// P8.2: sums are continued and joined at every place of all strings of up to 5 bytes.
func TestParts(t *testing.T) {
	for n := range 6 {
		for _, b := range everyString(n, 0, 1, 127, 254, 255) {
			for at := range n + 1 {
				expectParts(t, b, at)
			}
		}
	}
}

// P8.2: random strings in two parts, and long ones, whose second parts have more than 255 bytes.
func TestPartsRandom(t *testing.T) {
	random := rand.New(rand.NewSource(82))
	for range 3000 {
		b := scatter(random, 1200)
		expectParts(t, b, random.Intn(len(b)+1))
	}
	for _, n := range lengths() {
		b := make([]byte, n+random.Intn(1000))
		random.Read(b)
		expectParts(t, b, len(b)-n)
		expectParts(t, b, n)
	}
}

// P8.2: sums in more than two parts, continued one by one, and joined from either end.
func TestManyParts(t *testing.T) {
	random := rand.New(rand.NewSource(822))
	for range 500 {
		parts := [][]byte{scatter(random, 300), scatter(random, 3), scatter(random, 300), nil, scatter(random, 600)}
		whole := slices.Concat(parts...)
		first, second := sums(whole)
		x, y := 0, 0
		var left, right [2]int
		behind := 0
		for i, b := range parts {
			x, y = fletcher.Update(x, y, b)
			v, w := fletcher.Sum(b)
			left[0], left[1] = fletcher.Join(left, [2]int{v, w}, len(b))
			last := parts[len(parts)-1-i]
			v, w = fletcher.Sum(last)
			right[0], right[1] = fletcher.Join([2]int{v, w}, right, behind)
			behind += len(last)
		}
		want := [2]int{first, second}
		if x != first || y != second || left != want || right != want {
			t.Errorf("parts of %d bytes: %d %d, %v, %v, want %v", len(whole), x, y, left, right, want)
		}
	}
}

// P8.2: sums that are not from 0 to 254 are reduced first, also negative ones and the greatest and least numbers.
func TestUpdateReduces(t *testing.T) {
	for _, c := range []struct {
		first, second         int
		b                     []byte
		wantFirst, wantSecond int
	}{
		{3, 4, []byte{3}, 6, 10}, {3, 4, nil, 3, 4}, {254, 254, nil, 254, 254}, {255, 255, nil, 0, 0}, {256, 511, nil, 1, 1},
		{-1, -254, nil, 254, 1}, {-255, -256, nil, 0, 254}, {-510, -511, []byte{}, 0, 254}, {-1, -1, []byte{1}, 0, 254}, {254, 0, []byte{1}, 0, 0},
		{254, 254, []byte{254}, 253, 252}, {-249, 261, []byte{255, 1}, 7, 19}, {0, 0, []byte{255, 0, 255}, 0, 0}, {1, 0, []byte{0, 255, 0}, 1, 3},
	} {
		expectUpdate(t, c.first, c.second, c.b, c.wantFirst, c.wantSecond)
	}
	for _, b := range [][]byte{nil, {0}, {1}, {254, 255}, {9, 0, 200}} {
		for _, first := range []int{0, 1, 100, 254} {
			for _, second := range []int{0, 1, 154, 254} {
				// A byte string with these two sums: its two bytes count twice and once.
				x := reduced(second - first)
				wantFirst, wantSecond := sums(slices.Concat([]byte{byte(x), byte(reduced(first - x))}, b))
				for _, v := range equals(first) {
					for _, w := range equals(second) {
						expectUpdate(t, v, w, b, wantFirst, wantSecond)
					}
				}
			}
		}
	}
}

// P8.2: sums and numbers of bytes that are not from 0 to 254 are reduced first.
func TestJoinReduces(t *testing.T) {
	expectJoin(t, [2]int{3, 4}, [2]int{-249, 261}, 1, 9, 13)
	expectJoin(t, [2]int{3, 4}, [2]int{6, 6}, 0, 9, 10)
	expectJoin(t, [2]int{3, 4}, [2]int{6, 6}, 255, 9, 10)
	expectJoin(t, [2]int{3, 4}, [2]int{6, 6}, -1, 9, 7)
	expectJoin(t, [2]int{-1, -1}, [2]int{-1, -1}, -1, 253, 254)
	expectJoin(t, [2]int{254, 254}, [2]int{254, 254}, 254, 253, 254)
	expectJoin(t, [2]int{255, 255}, [2]int{510, -255}, 7, 0, 0)
	for _, n := range []int{0, 1, 2, 200, 254} {
		for _, sample := range [][2]int{{0, 0}, {1, 0}, {0, 1}, {254, 254}, {77, 130}} {
			a, b := sample, [2]int{sample[1], 254 - sample[0]}
			wantFirst, wantSecond := (a[0]+b[0])%255, (a[1]+n*a[0]+b[1])%255
			for i, many := range equals(n) {
				for j := range 10 {
					v := [2]int{equals(a[0])[j], equals(a[1])[(i+j)%10]}
					w := [2]int{equals(b[0])[(i+2*j)%10], equals(b[1])[(i+3*j)%10]}
					expectJoin(t, v, w, many, wantFirst, wantSecond)
				}
			}
		}
	}
	for _, n := range []int{math.MinInt, math.MaxInt} {
		r := reduced(n)
		expectJoin(t, [2]int{n, n}, [2]int{n, n}, n, 2*r%255, (2*r+r*r)%255)
		expectUpdate(t, n, n, []byte{0}, r, 2*r%255)
	}
}
