package compress_test

import (
	"math"
	"math/rand"
	"slices"
	"testing"

	"waypoint/api"
	"waypoint/compress"
)

// example returns the table of the chapter's first example.
func example(t *testing.T) []api.Route {
	t.Helper()
	return []api.Route{route(t, "10.0.0.0/9", 1), route(t, "10.128.0.0/9", 1), route(t, "10.64.0.0/10", 2)}
}

// The examples of the chapter, and that of DOC.md for this layer.
func TestExamples(t *testing.T) {
	l := example(t)
	want := []api.Route{route(t, "10.0.0.0/8", 1), route(t, "10.64.0.0/10", 2)}
	if got := expectCompress(t, l, 2); !slices.Equal(got, want) {
		t.Errorf("Compress(%v): %v, want %v", l, got, want)
	}
	expectCompress(t, []api.Route{route(t, "0.0.0.0/1", 1), route(t, "128.0.0.0/1", 2)}, 2)
	if got := expectCompress(t, l[:2], 1); !slices.Equal(got, want[:1]) {
		t.Errorf("Compress(%v): %v, want %v", l[:2], got, want[:1])
	}
}

// P6.1: an address has the value of the longest prefix, and 0 if there is none.
func TestLookup(t *testing.T) {
	l := append(example(t), route(t, "10.64.1.0/24", 0), route(t, "10.64.1.7/32", math.MaxInt), route(t, "255.255.255.255/32", 5))
	for addr, want := range map[uint32]int{
		0: 0, ip(9, 255, 255, 255): 0, ip(10, 0, 0, 0): 1, ip(10, 63, 255, 255): 1,
		ip(10, 64, 0, 0): 2, ip(10, 64, 0, 255): 2, ip(10, 64, 1, 0): 0, ip(10, 64, 1, 6): 0,
		ip(10, 64, 1, 7): math.MaxInt, ip(10, 64, 1, 8): 0, ip(10, 64, 2, 0): 2, ip(10, 127, 255, 255): 2,
		ip(10, 128, 0, 0): 1, ip(10, 255, 255, 255): 1, ip(11, 0, 0, 0): 0, math.MaxUint32 - 1: 0, math.MaxUint32: 5,
	} {
		expectLookup(t, l, addr, want)
		slices.Reverse(l)
		expectLookup(t, l, addr, want)
		expectLookup(t, nil, addr, 0)
		expectLookup(t, []api.Route{}, addr, 0)
		expectLookup(t, []api.Route{{Value: 3}}, addr, 3)
	}
}

// P6.1: random tables, at all addresses at which a value may change.
func TestLookupRandom(t *testing.T) {
	random := rand.New(rand.NewSource(61))
	for _, top := range tops(4) {
		for range 50 {
			l := scatter(random, within(top, 4), 12, 4)
			for _, addr := range edges(l) {
				expectLookup(t, l, addr, lookup(l, addr))
			}
		}
	}
}

// scatter returns a table of at most size routes with some of the prefixes, in any order, to values less than count.
func scatter(random *rand.Rand, parts []api.Prefix, size, count int) []api.Route {
	var l []api.Route
	for _, i := range random.Perm(len(parts))[:random.Intn(min(size, len(parts))+1)] {
		l = append(l, api.Route{Prefix: parts[i], Value: random.Intn(count)})
	}
	return l
}

// P6.1: the tables that differ in their form only are equal in effect.
func TestEqualEffect(t *testing.T) {
	for _, same := range [][][]api.Route{
		{nil, {}, {{}}, {route(t, "1.0.0.0/8", 0)}, {route(t, "255.255.255.255/32", 0), {}}},
		{{{Value: 1}}, {route(t, "128.0.0.0/1", 1), route(t, "0.0.0.0/1", 1)}, {{Value: 1}, route(t, "10.0.0.0/8", 1)}, {route(t, "0.0.0.0/1", 1), route(t, "128.0.0.0/1", 1), {Value: 9}}},
		{{route(t, "0.0.0.0/1", 1)}, {{Value: 1}, route(t, "128.0.0.0/1", 0)}},
		{{route(t, "128.0.0.0/1", 1)}, {{Value: 1}, route(t, "0.0.0.0/1", 0)}},
		{{route(t, "255.255.255.254/31", 4)}, {route(t, "255.255.255.254/32", 4), route(t, "255.255.255.255/32", 4)}},
		{example(t), {route(t, "10.0.0.0/8", 1), route(t, "10.64.0.0/10", 2)}, {route(t, "10.64.0.0/10", 2), route(t, "10.0.0.0/8", 1), route(t, "10.32.0.0/11", 1)}},
	} {
		for _, a := range same {
			for _, b := range same {
				expectEqual(t, a, b, true)
			}
		}
	}
}

// P6.1: one address, the first or the last one of all, or beside a prefix, makes a difference, and so does a value.
func TestEqualDifference(t *testing.T) {
	base := []api.Route{route(t, "10.0.0.0/8", 1)}
	for _, other := range [][]api.Route{
		nil,
		{route(t, "10.0.0.0/8", 2)},
		{route(t, "10.0.0.0/8", 0)},
		{route(t, "10.0.0.0/8", math.MaxInt)},
		{route(t, "10.0.0.0/7", 1)},
		{route(t, "10.0.0.0/9", 1)},
		{route(t, "10.128.0.0/9", 1)},
		{route(t, "11.0.0.0/8", 1)},
		append(slices.Clone(base), route(t, "0.0.0.0/32", 1)),
		append(slices.Clone(base), route(t, "255.255.255.255/32", 1)),
		append(slices.Clone(base), route(t, "9.255.255.255/32", 1)),
		append(slices.Clone(base), route(t, "11.0.0.0/32", 1)),
		append(slices.Clone(base), route(t, "10.0.0.0/32", 0)),
		append(slices.Clone(base), route(t, "10.255.255.255/32", 0)),
		append(slices.Clone(base), route(t, "10.1.2.3/32", 0)),
		append(slices.Clone(base), api.Route{Value: 1}),
	} {
		expectEqual(t, base, other, false)
	}
	all := []api.Route{{Value: 1}}
	expectEqual(t, all, nil, false)
	expectEqual(t, all, []api.Route{{Value: 1}, route(t, "255.255.255.255/32", 0)}, false)
	expectEqual(t, all, []api.Route{{Value: 1}, route(t, "0.0.0.0/32", 0)}, false)
}

// P6.1: all pairs of the tables with at most one bit and three values, and of those of the last two addresses.
func TestEqualEveryPair(t *testing.T) {
	for _, top := range tops(1)[:2] {
		parts := within(top, 1)
		for i := range power(4, len(parts)) {
			for j := range i + 1 {
				a, b := nth(i, parts, 3), nth(j, parts, 3)
				expectEqual(t, a, b, sameEffect(a, b))
			}
		}
	}
}

// P6.1: random tables, and the same ones with a change that may have an effect or none.
func TestEqualRandom(t *testing.T) {
	random := rand.New(rand.NewSource(611))
	found := make(map[bool]int)
	for _, top := range tops(3) {
		parts := within(top, 3)
		for range 500 {
			a := scatter(random, parts, 15, 2)
			b := slices.DeleteFunc(slices.Clone(a), func(api.Route) bool { return random.Intn(8) == 0 })
			random.Shuffle(len(b), func(i, j int) { b[i], b[j] = b[j], b[i] })
			want := sameEffect(a, b)
			found[want]++
			expectEqual(t, a, b, want)
		}
	}
	if found[true] < 100 || found[false] < 100 {
		t.Errorf("too few cases of a kind: %v", found)
	}
}

// P6.1: a route that is not valid, or a prefix that comes twice, at whatever place, makes that a list is no table.
func TestNoTable(t *testing.T) {
	table := []api.Route{{Value: 1}, {Prefix: api.Prefix{Addr: 1 << 31, Len: 1}, Value: 2}, {Prefix: api.Prefix{Len: 32}, Value: 3}}
	var wrong []api.Route
	for _, p := range invalid() {
		wrong = append(wrong, api.Route{Prefix: p, Value: 1}, api.Route{Prefix: p})
	}
	for _, v := range []int{-1, -2, math.MinInt} {
		wrong = append(wrong, api.Route{Prefix: api.Prefix{Addr: 1 << 30, Len: 2}, Value: v}, api.Route{Prefix: api.Prefix{Addr: math.MaxUint32, Len: 32}, Value: v})
	}
	for _, r := range table {
		wrong = append(wrong, r, api.Route{Prefix: r.Prefix, Value: 0}, api.Route{Prefix: r.Prefix, Value: 7})
	}
	for _, r := range wrong {
		for i := range len(table) + 1 {
			expectNoTable(t, slices.Insert(slices.Clone(table), i, r), table)
		}
	}
	expectNoTable(t, []api.Route{{}, {}}, nil)
	expectNoTable(t, []api.Route{{Value: -1}}, nil)
	expectNoTable(t, []api.Route{{Prefix: api.Prefix{Len: 33}}}, nil)
}

// expectNoTable checks that no function takes a list, alone and beside a table.
func expectNoTable(t *testing.T, l, table []api.Route) {
	t.Helper()
	given, givenTable := slices.Clone(l), slices.Clone(table)
	if got, e := compress.Compress(l); e != api.ErrArg || len(got) != 0 {
		t.Errorf("Compress(%v): %v, error %d", given, got, e)
	}
	for _, pair := range [][2][]api.Route{{l, table}, {table, l}, {l, l}} {
		if same, e := compress.Equal(pair[0], pair[1]); e != api.ErrArg || same {
			t.Errorf("Equal(%v, %v): %t, error %d", pair[0], pair[1], same, e)
		}
	}
	for _, addr := range []uint32{0, 1, 1 << 30, 1 << 31, math.MaxUint32} {
		expectLookup(t, l, addr, 0)
	}
	if !slices.Equal(l, given) || !slices.Equal(table, givenTable) {
		t.Errorf("%v and %v were changed to %v and %v", given, givenTable, l, table)
	}
}
