package topology_test

import (
	"math"
	"slices"
	"testing"

	"waypoint/api"
	"waypoint/topology"
)

// The examples of the chapter.
func TestExamples(t *testing.T) {
	x := line()
	expectPath(t, x, 0, []int{0, 2}, 2, 6, api.OK)
	expectPath(t, x, 2, []int{3, 1}, 0, 8, api.OK)
	x.Overload = []bool{false, true, false}
	expectPath(t, x, 0, []int{0, 2}, 0, 0, api.ErrForm)
	expectPath(t, x, 2, []int{3, 1}, 0, 0, api.ErrForm)
	expectText(t, line(), "nodes 3\nlink 0 1 2 3 10 1 0\nlink 1 2 4 5 10 1 0\n")
}

// P9.1: valid topologies, with the least and the greatest numbers.
func TestValid(t *testing.T) {
	for _, x := range samples() {
		given := copied(x)
		if !topology.Valid(x) {
			t.Errorf("Valid(%s): false", short(x))
		}
		expectKept(t, "Valid", x, given)
	}
	for n := 1; n <= 64; n++ {
		x := api.Topology{Nodes: n, Overload: make([]bool, n), Links: []api.Link{link(0, n-1, 1, 1), link(n-1, 0, 1, 1)}}
		if got := topology.Valid(x); got != (n > 1) {
			t.Errorf("Valid with the nodes %d and 0: %t", n-1, got)
		}
	}
}

// P9.1 to P9.5: with a topology that is not valid, every function says so, whatever else it is given.
func TestInvalid(t *testing.T) {
	for _, x := range invalid() {
		given := copied(x)
		if topology.Valid(x) {
			t.Errorf("Valid(%s): true", short(x))
		}
		if got := topology.Arcs(x); got != 0 {
			t.Errorf("Arcs(%s): %d", short(x), got)
		}
		for _, n := range []int{math.MinInt, -1, 0, 1, 2, 63, 64, 512, math.MaxInt} {
			if topology.Overloaded(x, n) {
				t.Errorf("Overloaded(%s, %d): true", short(x), n)
			}
			expectArc(t, x, n, direction{-1, -1, -1})
			expectOut(t, x, n, nil)
			expectIn(t, x, n, nil)
			for _, arcs := range [][]int{nil, {}, {0}, {0, 1}, {-1}} {
				expectPath(t, x, n, arcs, 0, 0, api.ErrArg)
			}
		}
		expectText(t, x, "")
		expectKept(t, "a function", x, given)
	}
}

// expectSame checks whether two topologies are the same, in both orders, and that they do not change.
func expectSame(t *testing.T, x, y api.Topology, want bool) {
	t.Helper()
	givenX, givenY := copied(x), copied(y)
	if got := topology.Same(x, y); got != want {
		t.Errorf("Same(%s, %s): %t", short(x), short(y), got)
	}
	if got := topology.Same(y, x); got != want {
		t.Errorf("Same(%s, %s): %t", short(y), short(x), got)
	}
	expectKept(t, "Same", x, givenX)
	expectKept(t, "Same", y, givenY)
}

// P9.1: a topology is the same as itself and as its copy, and each of its numbers matters.
func TestSame(t *testing.T) {
	for _, x := range append(samples(), invalid()...) {
		expectSame(t, x, x, true)
		expectSame(t, x, copied(x), true)
		y := copied(x)
		y.Nodes++
		expectSame(t, x, y, false)
		y = copied(x)
		y.Links = append(y.Links, link(0, 1, 1, 1))
		expectSame(t, x, y, false)
	}
	for i := range meshed().Links {
		for j := range 7 {
			for _, n := range []int{-1, 1, 1 << 32, math.MinInt} {
				y := meshed()
				*fields(&y.Links[i])[j] += n
				expectSame(t, meshed(), y, false)
				expectSame(t, y, copied(y), true)
			}
		}
	}
}

// P9.1: the order of links and their directions matter.
func TestSameOrder(t *testing.T) {
	x, y := line(), line()
	slices.Reverse(y.Links)
	expectSame(t, x, y, false)
	y = line()
	y.Links[1] = link(2, 1, 5, 4)
	expectSame(t, x, y, false)
	y = line()
	y.Links = y.Links[:1]
	expectSame(t, x, y, false)
	y.Links = nil
	expectSame(t, x, y, false)
	x.Links = []api.Link{}
	expectSame(t, x, y, true)
}

// P9.1: all lists without an overloaded node are equal, other ones only if they have the same elements, whatever Nodes is.
func TestSameOverload(t *testing.T) {
	lists := [][]bool{nil, {}, {false}, {false, false}, {false, false, false, false}, {true}, {false, true}, {true, false}, {true, true}, {true, false, false}, {true, false, true}, {false, false, true}, slices.Repeat([]bool{true}, 65)}
	for _, nodes := range []int{2, 1, 3, 0, -1, math.MaxInt} {
		for i, a := range lists {
			for j, b := range lists {
				x, y := api.Topology{Nodes: nodes, Overload: a}, api.Topology{Nodes: nodes, Overload: b}
				expectSame(t, x, y, i == j || i < 5 && j < 5)
				y.Nodes = 4
				expectSame(t, x, y, false)
			}
		}
	}
}

// P9.2: overloaded nodes, and numbers that no node has.
func TestOverloaded(t *testing.T) {
	for _, x := range samples() {
		given := copied(x)
		for n := range x.Nodes {
			want := len(x.Overload) > 0 && x.Overload[n]
			if got := topology.Overloaded(x, n); got != want {
				t.Errorf("Overloaded(%s, %d): %t", short(x), n, got)
			}
		}
		for _, n := range []int{-1, -2, -x.Nodes, x.Nodes, x.Nodes + 1, 64, 1 << 32, -1 << 32, math.MinInt, math.MaxInt} {
			if topology.Overloaded(x, n) {
				t.Errorf("Overloaded(%s, %d): true", short(x), n)
			}
		}
		expectKept(t, "Overloaded", x, given)
	}
	all := api.Topology{Nodes: 64, Overload: slices.Repeat([]bool{true}, 64)}
	if !topology.Overloaded(all, 0) || !topology.Overloaded(all, 63) || topology.Overloaded(all, 64) {
		t.Error("Overloaded where all nodes are")
	}
}
