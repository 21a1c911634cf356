package prefix_test

import (
	"math/rand"
	"slices"
	"testing"

	"waypoint/api"
	"waypoint/prefix"
)

// list returns the prefixes with some texts.
func list(t *testing.T, texts ...string) []api.Prefix {
	t.Helper()
	var l []api.Prefix
	for _, s := range texts {
		l = append(l, get(t, s))
	}
	return l
}

// expectAggregate checks the aggregate of a list, which is not modified.
func expectAggregate(t *testing.T, l, want []api.Prefix) {
	t.Helper()
	given := slices.Clone(l)
	got, e := prefix.Aggregate(l)
	if e != api.OK || !slices.Equal(got, want) {
		t.Errorf("Aggregate(%v): %v, error %d, want %v", given, got, e, want)
	}
	if !slices.Equal(l, given) {
		t.Errorf("Aggregate changed %v to %v", given, l)
	}
}

// within returns the prefixes that p covers and that are at most deep bits longer, in their order.
func within(p api.Prefix, deep int) []api.Prefix {
	l := []api.Prefix{p}
	if deep == 0 {
		return l
	}
	step := uint32(uint64(1) << (31 - p.Len))
	l = append(l, within(api.Prefix{Addr: p.Addr, Len: p.Len + 1}, deep-1)...)
	return append(l, within(api.Prefix{Addr: p.Addr + step, Len: p.Len + 1}, deep-1)...)
}

// least returns the shortest list for the addresses of a list that p contains, where no prefix of the list is more than deep bits longer than p. It divides p until a part belongs to the list as a whole or not at all.
func least(l []api.Prefix, p api.Prefix, deep int) []api.Prefix {
	from, to := bounds(p)
	for _, q := range l {
		if qFrom, qTo := bounds(q); qFrom <= from && to <= qTo {
			return []api.Prefix{p}
		}
	}
	if deep == 0 {
		return nil
	}
	step := uint32(uint64(1) << (31 - p.Len))
	lo := least(l, api.Prefix{Addr: p.Addr, Len: p.Len + 1}, deep-1)
	hi := least(l, api.Prefix{Addr: p.Addr + step, Len: p.Len + 1}, deep-1)
	parts := slices.Concat(lo, hi)
	if len(lo) == 1 && len(hi) == 1 && lo[0].Len == p.Len+1 && hi[0].Len == p.Len+1 {
		return []api.Prefix{p}
	}
	return parts
}

// P4.1, P4.4: no prefixes, single ones, doubled ones, and covered ones.
func TestAggregateFew(t *testing.T) {
	expectAggregate(t, nil, nil)
	expectAggregate(t, []api.Prefix{}, nil)
	for _, p := range samples() {
		one := []api.Prefix{p}
		expectAggregate(t, one, one)
		expectAggregate(t, []api.Prefix{p, p, p}, one)
		if p.Len == 32 {
			continue
		}
		lo, hi, _ := prefix.Split(p)
		expectAggregate(t, []api.Prefix{hi, lo}, one)
		expectAggregate(t, []api.Prefix{hi, p}, one)
		expectAggregate(t, []api.Prefix{lo, hi, p, lo}, one)
		expectAggregate(t, []api.Prefix{hi, hi}, []api.Prefix{hi})
	}
}

// P4.4: neighbours that are no halves of a prefix stay apart, and so do prefixes of different lengths.
func TestAggregateApart(t *testing.T) {
	for _, texts := range [][]string{
		{"10.0.1.0/24", "10.0.2.0/24"},
		{"0.0.0.0/2", "128.0.0.0/1"},
		{"64.0.0.0/2", "128.0.0.0/2"},
		{"0.0.0.0/32", "255.255.255.255/32"},
		{"10.0.0.0/24", "10.0.1.0/25", "10.0.1.128/26"},
		{"10.0.0.1/32", "10.0.0.2/31", "10.0.0.4/30"},
	} {
		l := list(t, texts...)
		expectAggregate(t, l, l)
		reversed := slices.Clone(l)
		slices.Reverse(reversed)
		expectAggregate(t, reversed, l)
	}
}

// P4.4: one prefix may complete a half at every length, up to all addresses.
func TestAggregateAll(t *testing.T) {
	for _, path := range []uint32{0, 1<<32 - 1, 0xaaaaaaaa, 0x12345678} {
		l := []api.Prefix{{Addr: path, Len: 32}}
		p := l[0]
		for p.Len > 0 {
			parent, _ := prefix.Parent(p)
			lo, hi, _ := prefix.Split(parent)
			if p == lo {
				l = append(l, hi)
			} else {
				l = append(l, lo)
			}
			p = parent
		}
		expectAggregate(t, l, []api.Prefix{{}})
		rest := least(l[1:], api.Prefix{}, 32)
		expectAggregate(t, l[1:], rest)
		if len(rest) != 32 {
			t.Errorf("all addresses but %#x: %d prefixes, want 32", path, len(rest))
		}
	}
}

// P4.4: every set of the prefixes with at most three bits, of those of the last 8 addresses, and of some between.
func TestAggregateEverySet(t *testing.T) {
	for _, top := range []api.Prefix{{}, {Addr: 1<<32 - 8, Len: 29}, {Addr: ip(10, 32, 0, 0), Len: 14}} {
		parts := within(top, 3)
		for set := range 1 << len(parts) {
			var l []api.Prefix
			// The greatest prefixes come last, against the order.
			for i := len(parts) - 1; i >= 0; i-- {
				if set>>i&1 == 1 {
					l = append(l, parts[i])
				}
			}
			expectAggregate(t, l, least(l, top, 3))
			if t.Failed() {
				return
			}
		}
	}
}

// P4.4: random lists of any lengths; their order does not matter, and aggregating again changes nothing.
func TestAggregateRandom(t *testing.T) {
	const deep = 6
	random := rand.New(rand.NewSource(44))
	tops := slices.DeleteFunc(samples(), func(p api.Prefix) bool { return p.Len > 32-deep })
	for range 1500 {
		top := tops[random.Intn(len(tops))]
		parts := within(top, deep)
		var l []api.Prefix
		for range random.Intn(60) {
			// Without the prefix of all parts, which would often hide the others.
			l = append(l, parts[random.Intn(len(parts)-1)+1])
		}
		want := least(l, top, deep)
		expectAggregate(t, l, want)
		random.Shuffle(len(l), func(i, j int) { l[i], l[j] = l[j], l[i] })
		expectAggregate(t, l, want)
		expectAggregate(t, want, want)
		if t.Failed() {
			return
		}
	}
}

// P4.4: many single addresses, in a mixed order, become one prefix; without one of them, one prefix of each length.
func TestAggregateMany(t *testing.T) {
	const bits = 16
	base := ip(10, 1, 0, 0)
	var l []api.Prefix
	for i := range uint32(1 << bits) {
		l = append(l, api.Prefix{Addr: base + i*40503%(1<<bits), Len: 32})
	}
	whole := api.Prefix{Addr: base, Len: 32 - bits}
	if got, e := prefix.Aggregate(l); e != api.OK || !slices.Equal(got, []api.Prefix{whole}) {
		t.Errorf("all: %d prefixes, error %d", len(got), e)
	}
	got, e := prefix.Aggregate(l[1:])
	if e != api.OK || len(got) != bits {
		t.Fatalf("all but the first: %v, error %d", got, e)
	}
	for i, p := range got {
		if p != (api.Prefix{Addr: base + 1<<i, Len: 32 - i}) {
			t.Errorf("all but the first: %v at %d", p, i)
		}
	}
}

// P4.1: one prefix that is not valid, at whatever place, is an error, even where another one would cover its addresses.
func TestAggregateInvalid(t *testing.T) {
	for _, p := range invalid() {
		for _, l := range [][]api.Prefix{
			{p},
			{p, {}, {Addr: 1 << 31, Len: 1}},
			{{}, p, {Addr: 1 << 31, Len: 1}},
			{{}, {Addr: 1 << 31, Len: 1}, p},
			{p, p},
		} {
			given := slices.Clone(l)
			if got, e := prefix.Aggregate(l); e != api.ErrArg || len(got) != 0 {
				t.Errorf("Aggregate(%v): %v, error %d", l, got, e)
			}
			if !slices.Equal(l, given) {
				t.Errorf("Aggregate changed %v to %v", given, l)
			}
		}
	}
}

// P4.1: the result shares no memory with the list, nor is the space behind the list written.
func TestAggregateNewMemory(t *testing.T) {
	store := list(t, "10.0.0.0/8", "12.0.0.0/8", "14.0.0.0/8", "16.0.0.0/8")
	given := slices.Clone(store)
	got, e := prefix.Aggregate(store[:2])
	if e != api.OK || len(got) != 2 {
		t.Fatalf("Aggregate: %v, error %d", got, e)
	}
	got[0].Len, got[1].Len = 99, 99
	_ = append(got, api.Prefix{Len: 98})
	if !slices.Equal(store, given) {
		t.Errorf("the list became %v", store)
	}
}
