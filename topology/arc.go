package topology

import "waypoint/api"

// arc is one direction of a link.
type arc struct {
	tail, head, cost int
}

// Arcs returns the number of arcs.
func Arcs(t api.Topology) int {
	if !Valid(t) {
		return 0
	}
	return 2 * len(t.Links)
}

// Tail returns the node where an arc begins.
func Tail(t api.Topology, a int) int {
	return find(t, a).tail
}

// Head returns the node where an arc ends.
func Head(t api.Topology, a int) int {
	return find(t, a).head
}

// Cost returns the cost of an arc.
func Cost(t api.Topology, a int) int {
	return find(t, a).cost
}

// Out returns the arcs that begin at a node.
func Out(t api.Topology, n int) []int {
	return choose(t, func(x arc) bool { return x.tail == n })
}

// In returns the arcs that end at a node.
func In(t api.Topology, n int) []int {
	return choose(t, func(x arc) bool { return x.head == n })
}

// Path returns the end and the cost of a path.
func Path(t api.Topology, from int, arcs []int) (to, cost int, e api.Errno) {
	if !Valid(t) {
		return 0, 0, api.ErrArg
	}
	if !hasNode(t, from) {
		return 0, 0, api.ErrRange
	}
	to = from
	for i, a := range arcs {
		if !hasArc(t, a) {
			return 0, 0, api.ErrRange
		}
		x := direction(t, a)
		if x.tail != to || i > 0 && overloaded(t, to) {
			return 0, 0, api.ErrForm
		}
		to, cost = x.head, cost+x.cost
	}
	return to, cost, api.OK
}

// find returns an arc, or one whose numbers are all -1 if t is not valid or there is no such arc.
func find(t api.Topology, a int) arc {
	if !Valid(t) || !hasArc(t, a) {
		return arc{-1, -1, -1}
	}
	return direction(t, a)
}

// choose returns the arcs for which a condition holds, in increasing order.
func choose(t api.Topology, holds func(x arc) bool) []int {
	var chosen []int
	for a := range Arcs(t) {
		if holds(direction(t, a)) {
			chosen = append(chosen, a)
		}
	}
	return chosen
}

// hasArc reports whether there is such an arc.
func hasArc(t api.Topology, a int) bool {
	return within(a, 0, 2*len(t.Links)-1)
}

// direction returns an arc, which there is.
func direction(t api.Topology, a int) arc {
	l := t.Links[a/2]
	if a%2 == 0 {
		return arc{l.A, l.B, l.Cost[0]}
	}
	return arc{l.B, l.A, l.Cost[1]}
}
