package topology_test

import (
	"math"
	"math/rand"
	"slices"
	"testing"

	"waypoint/api"
	"waypoint/topology"
)

// expectArc checks the ends and the cost of an arc.
func expectArc(t *testing.T, x api.Topology, a int, want direction) {
	t.Helper()
	if got := (direction{topology.Tail(x, a), topology.Head(x, a), topology.Cost(x, a)}); got != want {
		t.Errorf("arc %d of %s: %v, want %v", a, short(x), got, want)
	}
}

// expectOut checks the arcs that begin at a node.
func expectOut(t *testing.T, x api.Topology, n int, want []int) {
	t.Helper()
	if got := topology.Out(x, n); !slices.Equal(got, want) {
		t.Errorf("Out(%s, %d): %v, want %v", short(x), n, got, want)
	}
}

// expectIn checks the arcs that end at a node.
func expectIn(t *testing.T, x api.Topology, n int, want []int) {
	t.Helper()
	if got := topology.In(x, n); !slices.Equal(got, want) {
		t.Errorf("In(%s, %d): %v, want %v", short(x), n, got, want)
	}
}

// expectPath checks the end, the cost and the error of a path, and that the arguments do not change.
func expectPath(t *testing.T, x api.Topology, from int, arcs []int, to, cost int, e api.Errno) {
	t.Helper()
	given, givenArcs := copied(x), slices.Clone(arcs)
	if gotTo, gotCost, got := topology.Path(x, from, arcs); gotTo != to || gotCost != cost || got != e {
		t.Errorf("Path(%s, %d, %s): %d, %d, error %d, want %d, %d, error %d", short(x), from, short(arcs), gotTo, gotCost, got, to, cost, e)
	}
	expectKept(t, "Path", x, given)
	if !slices.Equal(arcs, givenArcs) {
		t.Errorf("Path changed %s to %s", short(givenArcs), short(arcs))
	}
}

// P9.2, P9.3, P9.6: every arc, and numbers that no arc has; the arcs of a link are opposite to each other.
func TestArcs(t *testing.T) {
	for _, x := range samples() {
		given, all := copied(x), directions(x)
		if got := topology.Arcs(x); got != len(all) {
			t.Errorf("Arcs(%s): %d, want %d", short(x), got, len(all))
		}
		for a, want := range all {
			expectArc(t, x, a, want)
			if other := a ^ 1; topology.Tail(x, a) != topology.Head(x, other) {
				t.Errorf("the arcs %d and %d of %s are not opposite", a, other, short(x))
			}
		}
		for _, a := range []int{-1, -2, -len(all) - 1, len(all), len(all) + 1, len(all) + 2, 512, 1 << 32, -1 << 32, math.MinInt, math.MinInt + 1, math.MaxInt - 1, math.MaxInt} {
			expectArc(t, x, a, direction{-1, -1, -1})
		}
		expectKept(t, "a function", x, given)
	}
}

// P9.3, P9.6: the arcs at every node; each arc begins at one of them and ends at one.
func TestOutIn(t *testing.T) {
	for _, x := range samples() {
		given := copied(x)
		starts, ends := 0, 0
		for n := range x.Nodes {
			var out, in []int
			for a, d := range directions(x) {
				if d.tail == n {
					out = append(out, a)
				}
				if d.head == n {
					in = append(in, a)
				}
			}
			expectOut(t, x, n, out)
			expectIn(t, x, n, in)
			starts, ends = starts+len(out), ends+len(in)
		}
		if starts != topology.Arcs(x) || ends != topology.Arcs(x) {
			t.Errorf("%d arcs of %s begin and %d end", starts, short(x), ends)
		}
		for _, n := range []int{-1, -2, x.Nodes, x.Nodes + 1, 64, 1 << 32, math.MinInt, math.MaxInt} {
			expectOut(t, x, n, nil)
			expectIn(t, x, n, nil)
		}
		expectKept(t, "a function", x, given)
	}
	expectOut(t, meshed(), 0, []int{0, 5, 6, 9})
	expectIn(t, meshed(), 0, []int{1, 4, 7, 8})
	expectOut(t, meshed(), 3, nil)
	expectIn(t, meshed(), 3, nil)
}

// P9.3: each list of arcs is new memory.
func TestOutNewMemory(t *testing.T) {
	x := full()
	for _, of := range []func(api.Topology, int) []int{topology.Out, topology.In} {
		got, other := of(x, 5), of(x, 5)
		kept := slices.Clone(other)
		for i := range got {
			got[i] = -7
		}
		if again := of(x, 5); !slices.Equal(other, kept) || !slices.Equal(again, kept) {
			t.Errorf("a result shares memory: %v, %v, want %v", other, again, kept)
		}
	}
}

// P9.4: all lists of up to 4 arcs, also of those that there are not, from every node and those beside them.
func TestPathEvery(t *testing.T) {
	ring := api.Topology{Nodes: 3, Links: []api.Link{link(0, 1, 1, 2), link(1, 2, 4, 8), link(0, 2, 16, 32)}}
	pair := api.Topology{Nodes: 2, Links: []api.Link{link(0, 1, 1, 2), link(1, 0, 4, 8)}}
	for _, x := range []api.Topology{line(), ring, pair, {Nodes: 2}} {
		lists := [][]int{nil}
		for i := 0; i < len(lists); i++ {
			if len(lists[i]) == 4 {
				break
			}
			for a := -1; a <= 2*len(x.Links); a++ {
				lists = append(lists, append(slices.Clone(lists[i]), a))
			}
		}
		for set := range 1 << x.Nodes {
			x.Overload = nil
			for n := range x.Nodes {
				x.Overload = append(x.Overload, set>>n&1 == 1)
			}
			for from := -1; from <= x.Nodes; from++ {
				for _, arcs := range lists {
					to, cost, e := follow(x, from, arcs)
					expectPath(t, x, from, arcs, to, cost, e)
				}
			}
		}
	}
}

// P9.4: the errors, written out; the first arc with one counts.
func TestPathErrors(t *testing.T) {
	x := meshed()
	for _, c := range []struct {
		from     int
		arcs     []int
		to, cost int
		e        api.Errno
	}{
		{0, []int{}, 0, 0, api.OK},
		{1, nil, 1, 0, api.OK},
		{3, nil, 3, 0, api.OK},
		{-1, nil, 0, 0, api.ErrRange},
		{5, nil, 0, 0, api.ErrRange},
		{5, []int{0, 0}, 0, 0, api.ErrRange},
		{math.MinInt, []int{99}, 0, 0, api.ErrRange},
		{math.MaxInt, []int{0}, 0, 0, api.ErrRange},
		{1, []int{2}, 2, 4, api.OK},
		{1, []int{4, 9, 8}, 0, 16 + 512 + 256, api.OK},
		{4, []int{12, 13}, 4, 4096 + 8192, api.OK},
		{0, []int{0}, 1, 1, api.OK},
		{0, []int{0, 2}, 0, 0, api.ErrForm},
		{0, []int{9, 13, 12}, 0, 0, api.ErrForm},
		{0, []int{9, 8, 9, 8}, 0, 2 * (512 + 256), api.OK},
		{3, []int{0}, 0, 0, api.ErrForm},
		{0, []int{1}, 0, 0, api.ErrForm},
		{0, []int{9, 9}, 0, 0, api.ErrForm},
		{0, []int{14}, 0, 0, api.ErrRange},
		{0, []int{-1}, 0, 0, api.ErrRange},
		{0, []int{0, 14}, 0, 0, api.ErrRange},
		{0, []int{0, -1}, 0, 0, api.ErrRange},
		{0, []int{1, -1}, 0, 0, api.ErrForm},
		{0, []int{-1, 1}, 0, 0, api.ErrRange},
		{0, []int{0, 2, -1}, 0, 0, api.ErrForm},
		{0, []int{9, math.MinInt, 1}, 0, 0, api.ErrRange},
		{0, []int{9, 1, math.MaxInt}, 0, 0, api.ErrForm},
		{0, []int{1 << 32}, 0, 0, api.ErrRange},
	} {
		expectPath(t, x, c.from, c.arcs, c.to, c.cost, c.e)
	}
}

// wander returns a random list of arcs, most of which are a path, from a node.
func wander(random *rand.Rand, x api.Topology, from int) []int {
	var arcs []int
	for range random.Intn(12) {
		out := topology.Out(x, from)
		if len(out) == 0 || random.Intn(15) == 0 {
			arcs = append(arcs, random.Intn(2*len(x.Links)+2)-1)
			continue
		}
		a := out[random.Intn(len(out))]
		arcs, from = append(arcs, a), topology.Head(x, a)
	}
	return arcs
}

// P9.4, P9.6: random lists; a path from the end of another one continues it, and the costs add up, unless this end is overloaded.
func TestPathContinued(t *testing.T) {
	random := rand.New(rand.NewSource(94))
	for range 3000 {
		x := scatter(random, 1+random.Intn(8), random.Intn(20))
		from := random.Intn(x.Nodes)
		first := wander(random, x, from)
		via, cost, e := follow(x, from, first)
		expectPath(t, x, from, first, via, cost, e)
		if e != api.OK {
			continue
		}
		second := wander(random, x, via)
		to, more, e := topology.Path(x, via, second)
		if e == api.OK && len(first) > 0 && len(second) > 0 && topology.Overloaded(x, via) {
			expectPath(t, x, from, slices.Concat(first, second), 0, 0, api.ErrForm)
		} else if e == api.OK {
			expectPath(t, x, from, slices.Concat(first, second), to, cost+more, api.OK)
		}
	}
}

// P9.4: a path may visit nodes as often as it likes, and its cost may be great.
func TestPathLong(t *testing.T) {
	x := api.Topology{Nodes: 2, Links: []api.Link{link(0, 1, 65535, 65534)}}
	const rounds = 200_000
	arcs := slices.Repeat([]int{0, 1}, rounds)
	expectPath(t, x, 0, arcs, 0, rounds*(65535+65534), api.OK)
	arcs[len(arcs)-1] = 0
	expectPath(t, x, 0, arcs, 0, 0, api.ErrForm)
}
