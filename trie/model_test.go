package trie_test

import (
	"maps"
	"math"
	"slices"
	"testing"

	"waypoint/api"
	"waypoint/prefix"
	"waypoint/trie"
)

// model is a table as a plain map of the values.
type model map[api.Prefix]int

// get returns the prefix with a text, which has to be one.
func get(t *testing.T, s string) api.Prefix {
	t.Helper()
	p, e := prefix.Parse(s)
	if e != api.OK {
		t.Fatalf("Parse(%q): error %d", s, e)
	}
	return p
}

// ip returns the address with four bytes.
func ip(a, b, c, d uint32) uint32 {
	return a<<24 | b<<16 | c<<8 | d
}

// bounds returns the first and the last address of a valid prefix.
func bounds(p api.Prefix) (from, to uint32) {
	return p.Addr, p.Addr + uint32(uint64(1)<<(32-p.Len)-1)
}

// covers tells whether all addresses of q are in p, for valid prefixes.
func covers(p, q api.Prefix) bool {
	pFrom, pTo := bounds(p)
	qFrom, qTo := bounds(q)
	return pFrom <= qFrom && qTo <= pTo
}

// within returns the prefixes that p covers and that are at most deep bits longer, in their order.
func within(p api.Prefix, deep int) []api.Prefix {
	l := []api.Prefix{p}
	if deep == 0 {
		return l
	}
	step := uint32(uint64(1) << (31 - p.Len))
	l = append(l, within(api.Prefix{Addr: p.Addr, Len: p.Len + 1}, deep-1)...)
	return append(l, within(api.Prefix{Addr: p.Addr + step, Len: p.Len + 1}, deep-1)...)
}

// tops returns prefixes, of which each covers prefixes that are deep bits longer: that of all addresses, of the last ones, of the first ones, and of some between.
func tops(deep int) []api.Prefix {
	last := uint32(1)<<deep - 1
	return []api.Prefix{
		{},
		{Addr: math.MaxUint32 - last, Len: 32 - deep},
		{Addr: 0, Len: 32 - deep},
		{Addr: ip(10, 32, 0, 0), Len: 14},
	}
}

// invalid returns prefixes that are not valid: with lengths out of range, and with a bit behind their length.
func invalid() []api.Prefix {
	var list []api.Prefix
	for _, n := range []int{-1, 33, -32, 34, 64, 255, 256, 1 << 32, 1<<32 + 8, math.MinInt, math.MaxInt} {
		for _, a := range []uint32{0, ip(10, 0, 0, 0), math.MaxUint32} {
			list = append(list, api.Prefix{Addr: a, Len: n})
		}
	}
	for n := range 32 {
		list = append(list, api.Prefix{Addr: 1, Len: n}, api.Prefix{Addr: 1 << (31 - n), Len: n}, api.Prefix{Addr: math.MaxUint32, Len: n})
	}
	return list
}

// under returns the routes of a model whose prefixes a valid prefix covers, by their first addresses, the greater prefixes first.
func (m model) under(p api.Prefix) []api.Route {
	var l []api.Route
	for q, v := range m {
		if covers(p, q) {
			l = append(l, api.Route{Prefix: q, Value: v})
		}
	}
	slices.SortFunc(l, func(a, b api.Route) int {
		aFrom, aTo := bounds(a.Prefix)
		bFrom, bTo := bounds(b.Prefix)
		if aFrom < bFrom || aFrom == bFrom && aTo > bTo {
			return -1
		}
		return 1
	})
	return l
}

// lookup returns the route of an address.
func (m model) lookup(addr uint32) (r api.Route, ok bool) {
	for p, v := range m {
		from, to := bounds(p)
		if from <= addr && addr <= to && (!ok || p.Len > r.Prefix.Len) {
			r, ok = api.Route{Prefix: p, Value: v}, true
		}
	}
	return r, ok
}

// nodes returns the number of nodes of the path-compressed trie: one for each route, and one for each prefix in whose halves two of them branch, which is the longest one that covers both.
func (m model) nodes() int {
	places := make(map[api.Prefix]bool)
	for p := range m {
		for q := range m {
			n := min(p.Len, q.Len)
			for cut(p.Addr, n) != cut(q.Addr, n) {
				n--
			}
			places[cut(p.Addr, n)] = true
		}
	}
	return len(places)
}

// cut returns the prefix with n bits that contains an address.
func cut(addr uint32, n int) api.Prefix {
	size := uint64(1) << (32 - n)
	return api.Prefix{Addr: uint32(uint64(addr) / size * size), Len: n}
}

// fill returns a trie with the routes of a model, put in the order of the list.
func fill(t *testing.T, m model, order []api.Prefix) *trie.Trie {
	t.Helper()
	x := trie.New()
	for _, p := range order {
		if v, ok := m[p]; ok {
			put(t, x, p, v)
		}
	}
	return x
}

// put puts a route, which has to be possible.
func put(t *testing.T, x *trie.Trie, p api.Prefix, value int) {
	t.Helper()
	if e := x.Put(api.Route{Prefix: p, Value: value}); e != api.OK {
		t.Errorf("Put(%v, %d): error %d", p, value, e)
	}
}

// remove removes a route, which has to be possible.
func remove(t *testing.T, x *trie.Trie, p api.Prefix) {
	t.Helper()
	if e := x.Remove(p); e != api.OK {
		t.Errorf("Remove(%v): error %d", p, e)
	}
}

// expectRoutes checks the routes of a trie, their number and the number of nodes.
func expectRoutes(t *testing.T, x *trie.Trie, m model) {
	t.Helper()
	if got, want := slices.Collect(x.All()), m.under(api.Prefix{}); !slices.Equal(got, want) {
		t.Errorf("All: %v, want %v", got, want)
	}
	if x.Len() != len(m) {
		t.Errorf("Len of %v: %d", m, x.Len())
	}
	if got, want := x.Nodes(), m.nodes(); got != want {
		t.Errorf("Nodes of %v: %d, want %d", m, got, want)
	}
	if len(m) > 0 && (x.Nodes() < x.Len() || x.Nodes() > 2*x.Len()-1) {
		t.Errorf("Nodes of %v: %d for %d routes", m, x.Nodes(), x.Len())
	}
}

// expectPrefix checks what a trie says about a valid prefix and about its first and last address.
func expectPrefix(t *testing.T, x *trie.Trie, m model, p api.Prefix) {
	t.Helper()
	want, has := m[p]
	if got, ok := x.Get(p); got != want || ok != has {
		t.Errorf("%v: Get(%v): %d, %t, want %d, %t", m, p, got, ok, want, has)
	}
	if got, want := x.Under(p), m.under(p); !slices.Equal(got, want) {
		t.Errorf("%v: Under(%v): %v, want %v", m, p, got, want)
	}
	from, to := bounds(p)
	for _, addr := range []uint32{from, to, from - 1, to + 1} {
		want, has := m.lookup(addr)
		if got, ok := x.Lookup(addr); got != want || ok != has {
			t.Errorf("%v: Lookup(%#x): %v, %t, want %v, %t", m, addr, got, ok, want, has)
		}
	}
}

// expectTable checks everything that a trie says, with all of some valid prefixes.
func expectTable(t *testing.T, x *trie.Trie, m model, prefixes []api.Prefix) {
	t.Helper()
	expectRoutes(t, x, m)
	for _, p := range prefixes {
		expectPrefix(t, x, m, p)
	}
}

// expectUnchanged checks that a trie still has the routes of a model, after a call that should have no effect.
func expectUnchanged(t *testing.T, x *trie.Trie, m model) {
	t.Helper()
	expectTable(t, x, m, slices.Collect(maps.Keys(m)))
}
