package compress_test

import (
	"math"
	"slices"
	"testing"

	"waypoint/api"
	"waypoint/compress"
	"waypoint/prefix"
)

// get returns the prefix with a text, which has to be one.
func get(t *testing.T, s string) api.Prefix {
	t.Helper()
	p, e := prefix.Parse(s)
	if e != api.OK {
		t.Fatalf("Parse(%q): error %d", s, e)
	}
	return p
}

// route returns a route to a value.
func route(t *testing.T, s string, value int) api.Route {
	t.Helper()
	return api.Route{Prefix: get(t, s), Value: value}
}

// ip returns the address with four bytes.
func ip(a, b, c, d uint32) uint32 {
	return a<<24 | b<<16 | c<<8 | d
}

// bounds returns the first and the last address of a valid prefix.
func bounds(p api.Prefix) (from, to uint32) {
	return p.Addr, p.Addr + uint32(uint64(1)<<(32-p.Len)-1)
}

// covers tells whether all addresses of q are in p, for valid prefixes.
func covers(p, q api.Prefix) bool {
	pFrom, pTo := bounds(p)
	qFrom, qTo := bounds(q)
	return pFrom <= qFrom && qTo <= pTo
}

// halves returns the halves of a prefix with fewer than 32 bits.
func halves(p api.Prefix) (lo, hi api.Prefix) {
	step := uint32(uint64(1) << (31 - p.Len))
	return api.Prefix{Addr: p.Addr, Len: p.Len + 1}, api.Prefix{Addr: p.Addr + step, Len: p.Len + 1}
}

// within returns the prefixes that p covers and that are at most deep bits longer, in their order.
func within(p api.Prefix, deep int) []api.Prefix {
	l := []api.Prefix{p}
	if deep == 0 {
		return l
	}
	lo, hi := halves(p)
	l = append(l, within(lo, deep-1)...)
	return append(l, within(hi, deep-1)...)
}

// tops returns prefixes, of which each covers prefixes that are deep bits longer: that of all addresses, of the last ones, of the first ones, and of some between.
func tops(deep int) []api.Prefix {
	last := uint32(1)<<deep - 1
	return []api.Prefix{
		{},
		{Addr: math.MaxUint32 - last, Len: 32 - deep},
		{Addr: 0, Len: 32 - deep},
		{Addr: ip(10, 32, 0, 0), Len: 14},
	}
}

// invalid returns prefixes that are not valid: with lengths out of range, and with a bit behind their length.
func invalid() []api.Prefix {
	var list []api.Prefix
	for _, n := range []int{-1, 33, -32, 64, 256, 1 << 32, 1<<32 + 8, math.MinInt, math.MaxInt} {
		for _, a := range []uint32{0, ip(10, 0, 0, 0), math.MaxUint32} {
			list = append(list, api.Prefix{Addr: a, Len: n})
		}
	}
	for n := range 32 {
		list = append(list, api.Prefix{Addr: 1, Len: n}, api.Prefix{Addr: 1 << (31 - n), Len: n}, api.Prefix{Addr: math.MaxUint32, Len: n})
	}
	return list
}

// lookup returns the value of an address in a table: that of the longest of the prefixes that contain it.
func lookup(l []api.Route, addr uint32) int {
	length, value := -1, 0
	for _, r := range l {
		from, to := bounds(r.Prefix)
		if from <= addr && addr <= to && r.Prefix.Len > length {
			length, value = r.Prefix.Len, r.Value
		}
	}
	return value
}

// edges returns the addresses around the ends of the prefixes of some tables, among them one of each range in which no value changes.
func edges(tables ...[]api.Route) []uint32 {
	list := []uint32{0, math.MaxUint32}
	for _, r := range slices.Concat(tables...) {
		from, to := bounds(r.Prefix)
		list = append(list, from-1, from, to, to+1)
	}
	slices.Sort(list)
	return slices.Compact(list)
}

// sameEffect tells whether two tables have the same values.
func sameEffect(a, b []api.Route) bool {
	for _, addr := range edges(a, b) {
		if lookup(a, addr) != lookup(b, addr) {
			return false
		}
	}
	return true
}

// values returns 0 and the values of a table, each of them once.
func values(l []api.Route) []int {
	list := []int{0}
	for _, r := range l {
		list = append(list, r.Value)
	}
	slices.Sort(list)
	return slices.Compact(list)
}

// costs returns the least number of routes in p with which its addresses have their values, for each value of the choices that a route above may give to them. It tries each choice for p and for all parts of it; rest is the value that p has where no route of the table is in it.
func costs(l []api.Route, p api.Prefix, rest int, choices []int) map[int]int {
	var below []api.Route
	for _, r := range l {
		switch {
		case r.Prefix == p:
			rest = r.Value
		case covers(p, r.Prefix):
			below = append(below, r)
		}
	}
	list := make(map[int]int)
	if len(below) == 0 {
		for _, v := range choices {
			if v != rest {
				list[v] = 1
			}
		}
		return list
	}
	first, second := halves(p)
	lo, hi := costs(below, first, rest, choices), costs(below, second, rest, choices)
	with := math.MaxInt
	for _, v := range choices {
		with = min(with, 1+lo[v]+hi[v])
	}
	for _, v := range choices {
		list[v] = min(with, lo[v]+hi[v])
	}
	return list
}

// fewest returns the number of routes of a smallest table.
func fewest(l []api.Route) int {
	return costs(l, api.Prefix{}, 0, values(l))[0]
}

// isTable tells whether a list has valid routes in the order of their prefixes, each prefix once.
func isTable(l []api.Route) bool {
	for i, r := range l {
		if r.Value < 0 || !prefix.Valid(r.Prefix) || i > 0 && prefix.Compare(l[i-1].Prefix, r.Prefix) >= 0 {
			return false
		}
	}
	return true
}

// expectCompress checks the smallest table for a table, which has a known number of routes, and returns it.
func expectCompress(t *testing.T, l []api.Route, want int) []api.Route {
	t.Helper()
	given := slices.Clone(l)
	got, e := compress.Compress(l)
	if e != api.OK || len(got) != want || !isTable(got) || !sameEffect(got, given) {
		t.Errorf("Compress(%v): %v, error %d, want %d routes", given, got, e, want)
	}
	if !slices.Equal(l, given) {
		t.Errorf("Compress changed %v to %v", given, l)
	}
	return got
}

// expectEqual checks what Equal says about two tables, in both orders.
func expectEqual(t *testing.T, a, b []api.Route, want bool) {
	t.Helper()
	givenA, givenB := slices.Clone(a), slices.Clone(b)
	for range 2 {
		if got, e := compress.Equal(a, b); got != want || e != api.OK {
			t.Errorf("Equal(%v, %v): %t, error %d, want %t", a, b, got, e, want)
		}
		a, b = b, a
	}
	if !slices.Equal(a, givenA) || !slices.Equal(b, givenB) {
		t.Errorf("Equal changed %v and %v to %v and %v", givenA, givenB, a, b)
	}
}

// expectLookup checks the value of an address.
func expectLookup(t *testing.T, l []api.Route, addr uint32, want int) {
	t.Helper()
	given := slices.Clone(l)
	if got := compress.Lookup(l, addr); got != want {
		t.Errorf("Lookup(%v, %#x): %d, want %d", given, addr, got, want)
	}
	if !slices.Equal(l, given) {
		t.Errorf("Lookup changed %v to %v", given, l)
	}
}

// nth returns the table with the number n of those that give to each of some prefixes no route or one to a value less than count. The last prefixes come first, against their order.
func nth(n int, parts []api.Prefix, count int) []api.Route {
	var l []api.Route
	for _, p := range slices.Backward(parts) {
		if v := n%(count+1) - 1; v >= 0 {
			l = append(l, api.Route{Prefix: p, Value: v})
		}
		n /= count + 1
	}
	return l
}

// power returns the number of lists of a length with that many choices for each item.
func power(choices, length int) int {
	n := 1
	for range length {
		n *= choices
	}
	return n
}
