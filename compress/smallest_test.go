package compress_test

import (
	"math"
	"math/rand"
	"slices"
	"testing"

	"waypoint/api"
	"waypoint/compress"
)

// P6.1, P6.2: no routes, single ones, those without an effect, and exceptions to no route at all.
func TestCompressFew(t *testing.T) {
	expectCompress(t, nil, 0)
	expectCompress(t, []api.Route{}, 0)
	for _, top := range tops(3) {
		for _, p := range within(top, 3) {
			expectCompress(t, []api.Route{{Prefix: p}}, 0)
			for _, v := range []int{1, 7, math.MaxInt} {
				one := []api.Route{{Prefix: p, Value: v}}
				if got := expectCompress(t, one, 1); !slices.Equal(got, one) {
					t.Errorf("Compress(%v): %v", one, got)
				}
			}
			if p.Len == 32 {
				continue
			}
			lo, hi := halves(p)
			expectCompress(t, []api.Route{{Prefix: hi, Value: 1}, {Prefix: lo, Value: 1}}, 1)
			expectCompress(t, []api.Route{{Prefix: hi, Value: 1}, {Prefix: lo}, {Prefix: p, Value: 1}}, 1)
			expectCompress(t, []api.Route{{Prefix: hi, Value: 1}, {Prefix: lo, Value: 1}, {Prefix: p, Value: 2}}, 1)
			expectCompress(t, []api.Route{{Prefix: hi}, {Prefix: lo}, {Prefix: p, Value: 2}}, 0)
			expectCompress(t, []api.Route{{Prefix: hi, Value: 2}, {Prefix: p, Value: 1}}, 2)
		}
	}
}

// P6.2: a route to 0 makes an exception where this saves others.
func TestException(t *testing.T) {
	// All addresses but one: without exceptions that would take 32 routes.
	for _, addr := range []uint32{0, math.MaxUint32, 0xaaaaaaaa, ip(10, 1, 5, 5)} {
		var l []api.Route
		for n := range 32 {
			l = append(l, api.Route{Prefix: api.Prefix{Addr: (addr ^ 1<<n) >> n << n, Len: 32 - n}, Value: 3})
		}
		want := []api.Route{{Value: 3}, {Prefix: api.Prefix{Addr: addr, Len: 32}}}
		if got := expectCompress(t, l, 2); !slices.Equal(got, want) {
			t.Errorf("Compress(%v): %v, want %v", l, got, want)
		}
	}
	// Here the addresses without a route decide against one for all.
	expectCompress(t, []api.Route{route(t, "10.0.0.0/10", 1), route(t, "10.192.0.0/10", 1)}, 2)
	expectCompress(t, []api.Route{route(t, "10.0.0.0/10", 1), route(t, "10.128.0.0/9", 1)}, 2)
}

// P6.2: a prefix far below another one, at each distance, of the same value, of another one, or of several.
func TestFarBelow(t *testing.T) {
	for from := range 31 {
		outer := api.Prefix{Addr: uint32(uint64(0xaaaaaaaa) >> (32 - from) << (32 - from)), Len: from}
		for to := from + 1; to < 32; to++ {
			inner := api.Prefix{Addr: 0xaaaaaaaa >> (32 - to) << (32 - to), Len: to}
			lo, hi := halves(inner)
			for n := range power(4, 2) {
				l := append(nth(n, []api.Prefix{outer, inner}, 3), api.Route{Prefix: lo, Value: 1}, api.Route{Prefix: hi, Value: 2})
				expectCompress(t, l, fewest(l))
			}
		}
	}
}

// P6.2: every table of the prefixes with at most two bits and three values has as many routes as the smallest of those with the same effect.
func TestEveryTable(t *testing.T) {
	parts := within(api.Prefix{}, 2)
	tables := power(4, len(parts))
	least := make(map[[4]int]int)
	for n := range tables {
		l := nth(n, parts, 3)
		key := quarters(l)
		if size, ok := least[key]; !ok || len(l) < size {
			least[key] = len(l)
		}
	}
	if len(least) != power(3, 4) {
		t.Fatalf("%d effects", len(least))
	}
	for n := range tables {
		l := nth(n, parts, 3)
		expectCompress(t, l, least[quarters(l)])
	}
}

// quarters returns the values of a table in the prefixes with two bits.
func quarters(l []api.Route) (list [4]int) {
	for i := range list {
		list[i] = lookup(l, uint32(i)<<30)
	}
	return list
}

// P6.2: all ways to give three values to eight prefixes of the same length, at the top, at the end, and far below the top.
func TestEveryEffect(t *testing.T) {
	for _, top := range tops(3) {
		parts := slices.DeleteFunc(within(top, 3), func(p api.Prefix) bool { return p.Len < top.Len+3 })
		for n := range power(3, len(parts)) {
			var l []api.Route
			for i, p := range parts {
				l = append(l, api.Route{Prefix: p, Value: n / power(3, i) % 3})
			}
			expectCompress(t, l, fewest(l))
		}
	}
}

// P6.2, P6.3: random tables of all sizes, with few values and with many.
func TestCompressRandom(t *testing.T) {
	const deep = 6
	random := rand.New(rand.NewSource(62))
	for _, top := range tops(deep) {
		parts := within(top, deep)
		for range 250 {
			l := scatter(random, parts, 60, 2+random.Intn(6))
			// A route above, beside all others, may have the values of some of them.
			if above := (api.Prefix{Len: random.Intn(10)}); top.Len > 10 && random.Intn(2) == 0 {
				l = append(l, api.Route{Prefix: above, Value: random.Intn(3)})
			}
			got := expectCompress(t, l, fewest(l))
			if len(got) > len(l) {
				t.Errorf("Compress(%v): more routes: %v", l, got)
			}
			expectCompress(t, got, len(got))
			expectEqual(t, l, got, true)
		}
	}
}

// P6.2: prefixes without a pattern, of any length, some of them near others.
func TestCompressScattered(t *testing.T) {
	random := rand.New(rand.NewSource(622))
	for range 400 {
		places := make(map[api.Prefix]bool)
		var l []api.Route
		addr := random.Uint32()
		for range random.Intn(25) {
			if random.Intn(3) == 0 {
				addr = random.Uint32()
			}
			addr ^= 1 << random.Intn(32)
			rest := random.Intn(33)
			p := api.Prefix{Addr: addr >> rest << rest, Len: 32 - rest}
			if !places[p] {
				places[p] = true
				l = append(l, api.Route{Prefix: p, Value: random.Intn(4)})
			}
		}
		expectCompress(t, l, fewest(l))
	}
}

// P6.3: tables that are equal in effect are compressed to the same number of routes, however many they have themselves.
func TestSameNumber(t *testing.T) {
	const deep = 4
	random := rand.New(rand.NewSource(63))
	for _, top := range tops(deep) {
		parts := within(top, deep)
		for range 100 {
			l := scatter(random, parts, 20, 4)
			want := len(expectCompress(t, l, fewest(l)))
			// The same values by routes of their own for all parts, which hide those above.
			var wide []api.Route
			for _, p := range parts {
				v := random.Intn(4)
				if p.Len == top.Len+deep {
					v = lookup(l, p.Addr)
				}
				wide = append(wide, api.Route{Prefix: p, Value: v})
			}
			random.Shuffle(len(wide), func(i, j int) { wide[i], wide[j] = wide[j], wide[i] })
			expectEqual(t, l, wide, true)
			expectCompress(t, wide, want)
		}
	}
}

// P6.1: the same table is compressed in the same way each time, though there are many ways to choose from its values.
func TestSameResult(t *testing.T) {
	var l []api.Route
	for i := range uint32(64) {
		l = append(l, api.Route{Prefix: api.Prefix{Addr: i << 26, Len: 6}, Value: int(i)*37%64 + 1})
	}
	first := expectCompress(t, l, len(l))
	for range 50 {
		if again, e := compress.Compress(l); e != api.OK || !slices.Equal(again, first) {
			t.Fatalf("Compress(%v): %v, error %d, before %v", l, again, e, first)
		}
	}
}

// P6.1: a result is new memory, also where nothing can be saved.
func TestNewMemory(t *testing.T) {
	l := []api.Route{route(t, "10.0.0.0/8", 1), route(t, "12.0.0.0/8", 2)}
	got := expectCompress(t, l, 2)
	got[0].Value = 9
	_ = append(got[:1], api.Route{})
	if l[0].Value != 1 || l[1].Value != 2 {
		t.Errorf("the argument became %v", l)
	}
	if again := expectCompress(t, l, 2); !slices.Equal(again, l) {
		t.Errorf("Compress(%v): %v", l, again)
	}
}

// P6.2: many single addresses, in a mixed order, with one value, with two that alternate, with none for one of them, and with all different.
func TestCompressMany(t *testing.T) {
	const bits = 16
	const many = 1 << bits
	for _, c := range []struct {
		value func(i uint32) int
		want  int
	}{
		{func(uint32) int { return 5 }, 1},
		{func(i uint32) int { return 1 + int(i%2) }, 1 + many/2},
		{func(i uint32) int { return int(i % 2) }, many / 2},
		{func(i uint32) int { return min(int(i), 1) }, 2},
		{func(i uint32) int { return 1 + int(i) }, many},
		{func(i uint32) int { return int(i) }, many - 1},
	} {
		var l []api.Route
		for i := range uint32(many) {
			i = i * 40503 % many
			l = append(l, api.Route{Prefix: api.Prefix{Addr: ip(10, 1, 0, 0) + i, Len: 32}, Value: c.value(i)})
		}
		got, e := compress.Compress(l)
		if e != api.OK || len(got) != c.want || !isTable(got) {
			t.Errorf("%d routes, error %d, want %d", len(got), e, c.want)
		}
		if same, e := compress.Equal(l, got); !same || e != api.OK {
			t.Errorf("Equal: %t, error %d", same, e)
		}
	}
}
