package prefix

import (
	"slices"

	"waypoint/api"
)

// Aggregate returns the least list of prefixes with the same addresses.
func Aggregate(l []api.Prefix) ([]api.Prefix, api.Errno) {
	for _, p := range l {
		if !Valid(p) {
			return nil, api.ErrArg
		}
	}
	sorted := slices.Clone(l)
	slices.SortFunc(sorted, Compare)
	var stack []api.Prefix
	for _, p := range sorted {
		stack = add(stack, p)
	}
	return stack, api.OK
}

// add puts a prefix onto a stack of prefixes that come before it in the order and have no address in common. With a half on top that it completes, it becomes their parent, which may complete the next one.
func add(stack []api.Prefix, p api.Prefix) []api.Prefix {
	// A prefix that covers p comes before it, and all prefixes between the two are covered as well, so that it is on top.
	if len(stack) > 0 && Covers(stack[len(stack)-1], p) {
		return stack
	}
	for len(stack) > 0 {
		parent, ok := join(stack[len(stack)-1], p)
		if !ok {
			break
		}
		stack, p = stack[:len(stack)-1], parent
	}
	return append(stack, p)
}

// join returns the prefix whose halves are lo and hi, or false if there is none.
func join(lo, hi api.Prefix) (api.Prefix, bool) {
	parent, e := Parent(lo)
	a, b, _ := Split(parent)
	if e != api.OK || a != lo || b != hi {
		return api.Prefix{}, false
	}
	return parent, true
}
