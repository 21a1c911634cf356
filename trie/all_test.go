package trie_test

import (
	"slices"
	"testing"

	"waypoint/api"
	"waypoint/trie"
)

// P5.1: the loop may be left after any route, within the table and at its end, and begun again.
func TestAllLeftEarly(t *testing.T) {
	x, m := example(t)
	put(t, x, api.Prefix{}, 4)
	m[api.Prefix{}] = 4
	want := m.under(api.Prefix{})
	all := x.All()
	for stop := 1; stop <= len(want); stop++ {
		var got []api.Route
		for r := range all {
			got = append(got, r)
			if len(got) == stop {
				break
			}
		}
		if !slices.Equal(got, want[:stop]) {
			t.Errorf("the first %d: %v, want %v", stop, got, want[:stop])
		}
	}
	if got := slices.Collect(all); !slices.Equal(got, want) {
		t.Errorf("again: %v, want %v", got, want)
	}
	expectUnchanged(t, x, m)
}

// P5.1: loops may be nested, and each of them sees the whole table.
func TestAllNested(t *testing.T) {
	x, m := example(t)
	var outer []api.Route
	for r := range x.All() {
		outer = append(outer, r)
		if got, want := slices.Collect(x.All()), m.under(api.Prefix{}); !slices.Equal(got, want) {
			t.Errorf("inner loop at %v: %v, want %v", r, got, want)
		}
	}
	if want := m.under(api.Prefix{}); !slices.Equal(outer, want) {
		t.Errorf("outer loop: %v, want %v", outer, want)
	}
}

// P5.1: a loop goes over the routes that the table has when it begins, not those from when All was called.
func TestAllLater(t *testing.T) {
	x := trie.New()
	all := x.All()
	p := get(t, "10.0.0.0/8")
	put(t, x, p, 1)
	if got, want := slices.Collect(all), []api.Route{{Prefix: p, Value: 1}}; !slices.Equal(got, want) {
		t.Errorf("with a route: %v, want %v", got, want)
	}
	remove(t, x, p)
	if got := slices.Collect(all); len(got) != 0 {
		t.Errorf("without it: %v", got)
	}
}

// P5.1: a loop during which the table changes ends, and the table has the changes.
func TestAllWithChanges(t *testing.T) {
	const deep = 4
	for _, top := range tops(deep) {
		parts := within(top, deep)
		x := trie.New()
		for _, p := range parts {
			put(t, x, p, 1)
		}
		for r := range x.All() {
			remove(t, x, r.Prefix)
		}
		for _, p := range parts {
			x.Remove(p)
		}
		expectTable(t, x, model{}, parts)
		m := model{parts[len(parts)-1]: 0}
		put(t, x, parts[len(parts)-1], 0)
		for range x.All() {
			for _, p := range parts {
				put(t, x, p, 2)
				m[p] = 2
			}
		}
		expectTable(t, x, m, parts)
	}
}

// P5.1: a list from Under is new memory: neither the table nor another list changes with it.
func TestUnderNewMemory(t *testing.T) {
	x, m := example(t)
	first, second := x.Under(api.Prefix{}), x.Under(api.Prefix{})
	for i := range first {
		first[i] = api.Route{Value: 99}
	}
	_ = append(first[:1], api.Route{Value: 98})
	if want := m.under(api.Prefix{}); !slices.Equal(second, want) {
		t.Errorf("the second list: %v, want %v", second, want)
	}
	expectUnchanged(t, x, m)
	remove(t, x, get(t, "10.2.0.0/16"))
	if want := m.under(api.Prefix{}); !slices.Equal(second, want) {
		t.Errorf("the second list after a change: %v, want %v", second, want)
	}
}
