package compress

import (
	"maps"
	"math"
	"slices"

	"waypoint/api"
	"waypoint/prefix"
)

// set is a set of values. It is never empty and, as parts share it, never changed after it has been made.
type set map[int]bool

// part is the part of a table in a prefix.
type part struct {
	prefix api.Prefix
	// best has the values with which the part needs the fewest routes of its own, if it gets one of them from a route that covers it. With any other value it needs one route more, which gives it a value of the set.
	best set
	// kids are the parts in which further routes may be needed: none, both halves, or one prefix that is farther below.
	kids [2]*part
}

// build returns the part in the prefix p, with its routes in their order; rest has only the value of the addresses in p for which none of them is.
func build(p api.Prefix, routes []api.Route, rest set) *part {
	if len(routes) > 0 && routes[0].Prefix == p {
		rest, routes = set{routes[0].Value: true}, routes[1:]
	}
	n := &part{prefix: p, best: rest}
	if len(routes) == 0 {
		return n
	}
	inner := narrow(p, routes)
	if inner.Len >= p.Len+2 {
		// The parent of the inner prefix merges it with the rest, and each one above it merges the result, which has the value of the rest, with the rest again: only the rest remains, and down to the inner prefix nothing but its value is chosen.
		n.kids[0] = build(inner, routes, rest)
		return n
	}
	lo, hi, _ := prefix.Split(p)
	at, _ := slices.BinarySearchFunc(routes, hi, compareTo)
	n.kids = [2]*part{build(lo, routes[:at], rest), build(hi, routes[at:], rest)}
	n.best = merge(n.kids[0].best, n.kids[1].best)
	return n
}

// narrow returns the longest prefix that covers those of some routes, which p covers and which are in their order.
func narrow(p api.Prefix, routes []api.Route) api.Prefix {
	first, last := routes[0].Prefix, routes[len(routes)-1].Prefix
	for p != first {
		lo, hi, _ := prefix.Split(p)
		switch {
		case prefix.Covers(lo, last):
			p = lo
		case prefix.Covers(hi, first):
			p = hi
		default:
			return p
		}
	}
	return p
}

// compareTo compares the prefix of a route with another prefix.
func compareTo(r api.Route, p api.Prefix) int {
	return prefix.Compare(r.Prefix, p)
}

// merge returns the best values for two halves together: those that are best for both, or, where there are none, those that save a route in one of them.
func merge(a, b set) set {
	few, many := a, b
	if len(few) > len(many) {
		few, many = many, few
	}
	both := make(set)
	for v := range few {
		if many[v] {
			both[v] = true
		}
	}
	switch len(both) {
	case 0:
		either := maps.Clone(many)
		maps.Copy(either, few)
		return either
	case len(few):
		// The same values need no further memory.
		return few
	}
	return both
}

// choose appends the routes that a part needs to a list, in their order, where the value that it gets from above is known.
func (n *part) choose(above int, l []api.Route) []api.Route {
	if n == nil {
		return l
	}
	if !n.best[above] {
		above = least(n.best)
		l = append(l, api.Route{Prefix: n.prefix, Value: above})
	}
	return n.kids[1].choose(above, n.kids[0].choose(above, l))
}

// least returns the least value of a set, as any choice will do that does not depend on the order of a map.
func least(values set) int {
	low := math.MaxInt
	for v := range values {
		low = min(low, v)
	}
	return low
}
