package trie_test

import (
	"maps"
	"math"
	"math/rand"
	"slices"
	"testing"

	"waypoint/api"
	"waypoint/trie"
)

// example returns the table of the chapter's example and its model.
func example(t *testing.T) (*trie.Trie, model) {
	t.Helper()
	m := model{get(t, "10.0.0.0/8"): 1, get(t, "10.1.0.0/16"): 2, get(t, "10.2.0.0/16"): 3}
	return fill(t, m, slices.Collect(maps.Keys(m))), m
}

// The example of the chapter.
func TestExample(t *testing.T) {
	x, m := example(t)
	for addr, want := range map[uint32]int{ip(10, 1, 5, 5): 2, ip(10, 9, 0, 1): 1, ip(10, 2, 0, 0): 3, ip(10, 0, 0, 0): 1, ip(10, 3, 255, 255): 1} {
		if r, ok := x.Lookup(addr); !ok || r.Value != want {
			t.Errorf("Lookup(%#x): %v, %t, want the value %d", addr, r, ok, want)
		}
	}
	if x.Nodes() != 4 {
		t.Errorf("Nodes: %d, want 4", x.Nodes())
	}
	branch := get(t, "10.0.0.0/14")
	if v, ok := x.Get(branch); ok || v != 0 {
		t.Errorf("Get of the branching: %d, %t", v, ok)
	}
	if e := x.Remove(branch); e != api.ErrNone {
		t.Errorf("Remove of the branching: error %d", e)
	}
	expectUnchanged(t, x, m)
}

// P5.1: a table without routes, new, from the zero value, and after its last route has been removed.
func TestEmpty(t *testing.T) {
	var zero trie.Trie
	emptied := trie.New()
	put(t, emptied, get(t, "10.0.0.0/8"), 1)
	put(t, emptied, get(t, "11.0.0.0/8"), 1)
	remove(t, emptied, get(t, "11.0.0.0/8"))
	remove(t, emptied, get(t, "10.0.0.0/8"))
	for _, x := range []*trie.Trie{trie.New(), &zero, emptied} {
		expectTable(t, x, model{}, within(api.Prefix{}, 3))
		if x.Nodes() != 0 {
			t.Errorf("Nodes: %d", x.Nodes())
		}
		if e := x.Remove(api.Prefix{}); e != api.ErrNone {
			t.Errorf("Remove: error %d", e)
		}
		put(t, x, api.Prefix{}, 5)
		expectTable(t, x, model{api.Prefix{}: 5}, within(api.Prefix{}, 3))
	}
}

// P5.1: a nil table has no routes and takes none, whether the prefix is valid or not.
func TestNil(t *testing.T) {
	var x *trie.Trie
	for _, p := range append(invalid(), within(api.Prefix{}, 3)...) {
		if e := x.Put(api.Route{Prefix: p, Value: 1}); e != api.ErrState {
			t.Errorf("Put(%v): error %d", p, e)
		}
		if e := x.Remove(p); e != api.ErrState {
			t.Errorf("Remove(%v): error %d", p, e)
		}
		if v, ok := x.Get(p); ok || v != 0 {
			t.Errorf("Get(%v): %d, %t", p, v, ok)
		}
		if l := x.Under(p); len(l) != 0 {
			t.Errorf("Under(%v): %v", p, l)
		}
		if r, ok := x.Lookup(p.Addr); ok || r != (api.Route{}) {
			t.Errorf("Lookup(%#x): %v, %t", p.Addr, r, ok)
		}
	}
	for r := range x.All() {
		t.Errorf("All: %v", r)
	}
	if x.Len() != 0 || x.Nodes() != 0 {
		t.Errorf("Len %d, Nodes %d", x.Len(), x.Nodes())
	}
}

// P5.1: prefixes that are not valid are errors and have no routes, and the table stays as it is.
func TestInvalid(t *testing.T) {
	for _, all := range []bool{false, true} {
		x, m := example(t)
		if all {
			m[api.Prefix{}] = 4
			m[get(t, "255.255.255.255/32")] = 5
			x = fill(t, m, slices.Collect(maps.Keys(m)))
		}
		for _, p := range invalid() {
			if e := x.Put(api.Route{Prefix: p, Value: 1}); e != api.ErrArg {
				t.Errorf("Put(%v): error %d", p, e)
			}
			if e := x.Remove(p); e != api.ErrArg {
				t.Errorf("Remove(%v): error %d", p, e)
			}
			if v, ok := x.Get(p); ok || v != 0 {
				t.Errorf("Get(%v): %d, %t", p, v, ok)
			}
			if l := x.Under(p); len(l) != 0 {
				t.Errorf("Under(%v): %v", p, l)
			}
		}
		expectUnchanged(t, x, m)
	}
}

// P5.1: values are any numbers; those of a prefix replace each other, and 0 is not the lack of a route.
func TestValues(t *testing.T) {
	p, q := get(t, "10.1.0.0/16"), get(t, "10.0.0.0/8")
	x := trie.New()
	put(t, x, q, 1)
	for _, v := range []int{7, 0, -1, math.MinInt, math.MaxInt, 0, 0} {
		put(t, x, p, v)
		expectTable(t, x, model{p: v, q: 1}, []api.Prefix{p, q})
	}
	remove(t, x, p)
	expectTable(t, x, model{q: 1}, []api.Prefix{p, q})
	if e := x.Remove(p); e != api.ErrNone {
		t.Errorf("Remove again: error %d", e)
	}
	expectTable(t, x, model{q: 1}, []api.Prefix{p, q})
}

// P5.1: a branching becomes a route and the other way round; its value does not stay.
func TestBranching(t *testing.T) {
	x, m := example(t)
	branch := get(t, "10.0.0.0/14")
	put(t, x, branch, 8)
	m[branch] = 8
	expectUnchanged(t, x, m)
	if x.Nodes() != 4 {
		t.Errorf("Nodes with a route: %d, want 4", x.Nodes())
	}
	remove(t, x, branch)
	delete(m, branch)
	expectUnchanged(t, x, m)
	expectPrefix(t, x, m, branch)
	if x.Nodes() != 4 {
		t.Errorf("Nodes without it: %d, want 4", x.Nodes())
	}
	remove(t, x, get(t, "10.1.0.0/16"))
	delete(m, get(t, "10.1.0.0/16"))
	expectUnchanged(t, x, m)
	if x.Nodes() != 2 {
		t.Errorf("Nodes without the branching: %d, want 2", x.Nodes())
	}
}

// P5.1 to P5.3: every set of prefixes with at most three bits, and of those of the last 8 addresses: put in their order and against it, removed from the table of all of them, and put back.
func TestEverySet(t *testing.T) {
	const deep = 3
	for _, top := range tops(deep)[:2] {
		parts := within(top, deep)
		around := append([]api.Prefix{{}}, parts...)
		turned := slices.Clone(parts)
		slices.Reverse(turned)
		all := trie.New()
		for _, p := range parts {
			put(t, all, p, 1)
		}
		for set := range 1 << len(parts) {
			m := make(model)
			for i, p := range parts {
				if set>>i&1 == 1 {
					m[p] = 1 + i
				}
			}
			expectTable(t, fill(t, m, parts), m, around)
			expectRoutes(t, fill(t, m, turned), m)
			change(t, all, m, parts)
			expectRoutes(t, all, m)
			if t.Failed() {
				return
			}
		}
	}
}

// change gives a trie the routes of a model, of all those whose prefixes are in a list.
func change(t *testing.T, x *trie.Trie, m model, parts []api.Prefix) {
	t.Helper()
	for _, p := range parts {
		if v, ok := m[p]; ok {
			put(t, x, p, v)
			continue
		}
		want := api.ErrNone
		if _, has := x.Get(p); has {
			want = api.OK
		}
		if e := x.Remove(p); e != want {
			t.Errorf("Remove(%v): error %d, want %d", p, e, want)
		}
	}
}

// P5.1 to P5.3: any sequence of calls does to a table what it does to a plain map.
func TestLikeMap(t *testing.T) {
	const deep = 5
	random := rand.New(rand.NewSource(5))
	for _, top := range tops(deep) {
		parts := within(top, deep)
		for range 30 {
			x, m := trie.New(), make(model)
			// Tables of all sizes: some lose most of their routes, some keep them.
			often := random.Intn(9) + 1
			for range 120 {
				p := parts[random.Intn(len(parts))]
				if random.Intn(10) < often {
					put(t, x, p, random.Intn(5)-1)
					m[p], _ = x.Get(p)
				} else {
					delete(m, p)
					x.Remove(p)
				}
				expectTable(t, x, m, []api.Prefix{p, parts[random.Intn(len(parts))]})
			}
			expectTable(t, x, m, parts)
			if t.Failed() {
				return
			}
		}
	}
}

// P5.1, P5.2: prefixes without a pattern, of any length.
func TestScattered(t *testing.T) {
	random := rand.New(rand.NewSource(55))
	for range 60 {
		var order []api.Prefix
		m := make(model)
		for range random.Intn(40) {
			p := cut(random.Uint32(), random.Intn(33))
			if len(order) > 0 && random.Intn(2) == 0 {
				// Near another one, with which it has many bits in common.
				p = cut(order[random.Intn(len(order))].Addr^1<<random.Intn(32), random.Intn(33))
			}
			order = append(order, p)
			m[p] = random.Int() - random.Int()
		}
		x := fill(t, m, order)
		expectTable(t, x, m, order)
		for i, p := range order {
			if _, has := m[p]; has && i%2 == 0 {
				remove(t, x, p)
				delete(m, p)
			}
		}
		expectTable(t, x, m, order)
		if t.Failed() {
			return
		}
	}
}

// P5.3: the order in which routes are put and removed does not matter.
func TestOrder(t *testing.T) {
	const deep = 6
	random := rand.New(rand.NewSource(53))
	parts := within(api.Prefix{Addr: ip(172, 16, 0, 0), Len: 12}, deep)
	for range 100 {
		m := make(model)
		for range random.Intn(50) {
			m[parts[random.Intn(len(parts))]] = random.Intn(9)
		}
		for range 4 {
			random.Shuffle(len(parts), func(i, j int) { parts[i], parts[j] = parts[j], parts[i] })
			x := trie.New()
			for _, p := range parts[:random.Intn(len(parts))] {
				put(t, x, p, -1)
			}
			change(t, x, m, parts)
			expectRoutes(t, x, m)
		}
		if t.Failed() {
			return
		}
	}
}

// P5.2: a prefix of every length on the way to an address needs no other node.
func TestLeastSize(t *testing.T) {
	for _, addr := range []uint32{0, math.MaxUint32, 0xaaaaaaaa, ip(10, 1, 5, 5)} {
		x, m := trie.New(), make(model)
		for n := 32; n >= 0; n-- {
			// The even lengths first, so that the odd ones come between them.
			length := n * 2 % 33
			m[cut(addr, length)] = length
			put(t, x, cut(addr, length), length)
			expectUnchanged(t, x, m)
			if x.Nodes() != x.Len() {
				t.Errorf("%d routes: %d nodes", x.Len(), x.Nodes())
			}
		}
		for n := 32; n >= 0; n-- {
			if r, ok := x.Lookup(addr); !ok || r.Value != n {
				t.Errorf("Lookup(%#x): %v, %t, want the length %d", addr, r, ok, n)
			}
			remove(t, x, cut(addr, n))
		}
	}
}

// P5.2: single addresses need the most nodes, one less than twice as many; they go away with the routes.
func TestGreatestSize(t *testing.T) {
	const many = 1 << 16
	x := trie.New()
	base := ip(10, 1, 0, 0)
	for i := range uint32(many) {
		put(t, x, api.Prefix{Addr: base + i*40503%many, Len: 32}, int(i))
		if x.Len() != int(i)+1 || x.Nodes() != 2*x.Len()-1 {
			t.Fatalf("%d addresses: Len %d, Nodes %d", i+1, x.Len(), x.Nodes())
		}
	}
	for i := range uint32(many) {
		if r, ok := x.Lookup(base + i*40503%many); !ok || r.Value != int(i) {
			t.Fatalf("Lookup: %v, %t, want the value %d", r, ok, i)
		}
	}
	if l := x.Under(cut(base, 20)); len(l) != 1<<12 || l[0].Prefix.Addr != base {
		t.Errorf("Under: %d routes", len(l))
	}
	for i := range uint32(many) {
		remove(t, x, api.Prefix{Addr: base + i, Len: 32})
		if x.Len() != many-1-int(i) || x.Nodes() != max(2*x.Len()-1, 0) {
			t.Fatalf("%d addresses: Len %d, Nodes %d", many-1-i, x.Len(), x.Nodes())
		}
	}
}

// Two tables share nothing.
func TestApart(t *testing.T) {
	a, m := example(t)
	b := trie.New()
	put(t, b, get(t, "10.1.0.0/16"), 9)
	remove(t, b, get(t, "10.1.0.0/16"))
	expectUnchanged(t, a, m)
	expectUnchanged(t, b, model{})
}
