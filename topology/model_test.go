package topology_test

import (
	"fmt"
	"math"
	"math/rand"
	"regexp"
	"slices"
	"strconv"
	"strings"
	"testing"

	"waypoint/api"
)

// direction is an arc, as the chapter defines it.
type direction struct {
	tail, head, cost int
}

// link returns a link with some costs and without a group.
func link(a, b, cost, back int) api.Link {
	return api.Link{A: a, B: b, Cost: [2]int{cost, back}, Capacity: 10, Delay: 1}
}

// line returns the topology of the chapter's examples.
func line() api.Topology {
	return api.Topology{Nodes: 3, Links: []api.Link{link(0, 1, 2, 3), link(1, 2, 4, 5)}}
}

// meshed returns a topology with parallel links in both directions, a node without links, and overloaded nodes.
func meshed() api.Topology {
	return api.Topology{Nodes: 5, Overload: []bool{false, true, false, false, true}, Links: []api.Link{
		link(0, 1, 1, 2), link(1, 2, 4, 8), link(1, 0, 16, 32), link(0, 1, 64, 128), link(2, 0, 256, 512), link(2, 1, 1024, 2048), link(4, 2, 4096, 8192),
	}}
}

// full returns a topology with the greatest numbers of nodes and links.
func full() api.Topology {
	t := api.Topology{Nodes: 64, Overload: make([]bool, 64)}
	for i := range 256 {
		t.Links = append(t.Links, api.Link{A: i % 64, B: (i + 1 + i/64) % 64, Cost: [2]int{i + 1, 65535 - i}, Capacity: i * 4096, Delay: i*256 + 1, Group: i % 65})
		t.Overload[i%64] = i%3 == 0
	}
	return t
}

// extremes returns links between the nodes 0 and 1 that are valid, with the least and the greatest of each number.
func extremes() []api.Link {
	least := api.Link{A: 0, B: 1, Cost: [2]int{1, 1}, Capacity: 0, Delay: 1, Group: 0}
	greatest := api.Link{A: 1, B: 0, Cost: [2]int{65535, 65535}, Capacity: 1 << 20, Delay: 1 << 16, Group: 64}
	l := []api.Link{least, greatest}
	// The nodes, at the places 0 and 1, have to stay different.
	for i := 2; i < 7; i++ {
		one, other := least, greatest
		*fields(&one)[i], *fields(&other)[i] = *fields(&greatest)[i], *fields(&least)[i]
		l = append(l, one, other)
	}
	return l
}

// fields returns the numbers of a link, in the order of its line.
func fields(l *api.Link) []*int {
	return []*int{&l.A, &l.B, &l.Cost[0], &l.Cost[1], &l.Capacity, &l.Delay, &l.Group}
}

// samples returns valid topologies, at all limits.
func samples() []api.Topology {
	l := []api.Topology{line(), meshed(), full(), {Nodes: 1}, {Nodes: 1, Overload: []bool{true}}, {Nodes: 64, Overload: slices.Repeat([]bool{true}, 64)}}
	l = append(l, api.Topology{Nodes: 2, Links: extremes()}, api.Topology{Nodes: 2, Links: slices.Repeat([]api.Link{link(1, 0, 7, 7)}, 256)})
	l = append(l, api.Topology{Nodes: 3, Overload: []bool{false, false, false}, Links: []api.Link{link(2, 0, 5, 6)}}, api.Topology{Nodes: 2, Overload: []bool{}, Links: []api.Link{}})
	for _, x := range extremes() {
		l = append(l, api.Topology{Nodes: 2, Links: []api.Link{x}})
	}
	random := rand.New(rand.NewSource(9))
	for range 200 {
		l = append(l, scatter(random, 1+random.Intn(64), random.Intn(257)))
	}
	return l
}

// scatter returns a random valid topology with so many nodes, and with so many links, if there are two nodes.
func scatter(random *rand.Rand, nodes, links int) api.Topology {
	t := api.Topology{Nodes: nodes}
	if random.Intn(3) > 0 {
		t.Overload = make([]bool, nodes)
		for n := range nodes {
			t.Overload[n] = random.Intn(4) == 0
		}
	}
	for range links {
		if nodes == 1 {
			return t
		}
		a := random.Intn(nodes)
		b := (a + 1 + random.Intn(nodes-1)) % nodes
		t.Links = append(t.Links, api.Link{A: a, B: b, Cost: [2]int{1 + random.Intn(65535), 1 + random.Intn(65535)}, Capacity: random.Intn(1<<20 + 1), Delay: 1 + random.Intn(1<<16), Group: random.Intn(65)})
	}
	return t
}

// invalid returns topologies that are not valid, for one reason each.
func invalid() []api.Topology {
	var l []api.Topology
	for _, n := range []int{0, -1, -64, 65, 66, 1 << 32, 1<<32 + 4, math.MinInt, math.MaxInt} {
		l = append(l, api.Topology{Nodes: n}, api.Topology{Nodes: n, Links: []api.Link{link(0, 1, 1, 1)}})
		if n == 65 || n == 66 {
			l = append(l, api.Topology{Nodes: n, Overload: make([]bool, n)})
		}
	}
	for _, n := range []int{1, 2, 4, 63, 64, 65} {
		l = append(l, api.Topology{Nodes: 3, Overload: make([]bool, n)}, api.Topology{Nodes: 3, Overload: slices.Repeat([]bool{true}, n)})
	}
	l = append(l, api.Topology{}, api.Topology{Nodes: 2, Links: slices.Repeat([]api.Link{link(0, 1, 1, 1)}, 257)}, api.Topology{Nodes: 2, Links: slices.Repeat([]api.Link{link(0, 1, 1, 1)}, 1000)})
	for _, x := range invalidLinks() {
		good := link(0, 1, 1, 1)
		for _, links := range [][]api.Link{{x}, {x, good, good}, {good, x, good}, {good, good, x}, append(slices.Repeat([]api.Link{good}, 255), x)} {
			l = append(l, api.Topology{Nodes: 3, Links: links})
		}
	}
	return l
}

// invalidLinks returns links that are not valid between 3 nodes, for one reason each.
func invalidLinks() []api.Link {
	l := []api.Link{link(0, 0, 1, 1), link(1, 1, 1, 1), link(2, 2, 1, 1)}
	for i, bad := range [][]int{{-1, 3}, {-1, 3}, {0, -1, 65536}, {0, -1, 65536}, {-1, 1<<20 + 1}, {0, -1, 1<<16 + 1}, {-1, 65}} {
		for _, n := range append(bad, 1<<32+2, -1<<32+2, math.MinInt, math.MaxInt) {
			for _, x := range []api.Link{link(2, 1, 1, 1), link(1, 2, 65535, 65535)} {
				*fields(&x)[i] = n
				l = append(l, x)
			}
		}
	}
	return l
}

// copied returns a topology of its own memory.
func copied(t api.Topology) api.Topology {
	return api.Topology{Nodes: t.Nodes, Overload: slices.Clone(t.Overload), Links: slices.Clone(t.Links)}
}

// identical tells whether two topologies have equal numbers and lists.
func identical(t, u api.Topology) bool {
	return t.Nodes == u.Nodes && slices.Equal(t.Overload, u.Overload) && slices.Equal(t.Links, u.Links)
}

// normal returns a topology without a list that says that no node is overloaded.
func normal(t api.Topology) api.Topology {
	u := copied(t)
	if !slices.Contains(u.Overload, true) {
		u.Overload = nil
	}
	return u
}

// directions returns the arcs of a topology.
func directions(t api.Topology) []direction {
	var l []direction
	for _, x := range t.Links {
		l = append(l, direction{x.A, x.B, x.Cost[0]}, direction{x.B, x.A, x.Cost[1]})
	}
	return l
}

// follow returns what Path returns for a valid topology, by the chapter's definition: all but the last arc come first.
func follow(t api.Topology, from int, arcs []int) (to, cost int, e api.Errno) {
	if from < 0 || from >= t.Nodes {
		return 0, 0, api.ErrRange
	}
	last := len(arcs) - 1
	if last < 0 {
		return from, 0, api.OK
	}
	to, cost, e = follow(t, from, arcs[:last])
	if e != api.OK {
		return 0, 0, e
	}
	all := directions(t)
	if arcs[last] < 0 || arcs[last] >= len(all) {
		return 0, 0, api.ErrRange
	}
	x := all[arcs[last]]
	if x.tail != to {
		return 0, 0, api.ErrForm
	}
	if last > 0 && len(t.Overload) > 0 && t.Overload[to] {
		return 0, 0, api.ErrForm
	}
	return x.head, cost + x.cost, api.OK
}

// written returns the text of a valid topology.
func written(t api.Topology) string {
	var lines []string
	lines = append(lines, fmt.Sprintln("nodes", t.Nodes))
	for n, overloaded := range t.Overload {
		if overloaded {
			lines = append(lines, fmt.Sprintln("overload", n))
		}
	}
	for _, x := range t.Links {
		lines = append(lines, fmt.Sprintf("link %d %d %d %d %d %d %d\n", x.A, x.B, x.Cost[0], x.Cost[1], x.Capacity, x.Delay, x.Group))
	}
	return strings.Join(lines, "")
}

// textForm matches what has the form of a text, with numbers of any size.
var textForm = regexp.MustCompile(strings.ReplaceAll(`\Anodes N\n(overload N\n)*(link N N N N N N N\n)*\z`, "N", `(0|[1-9][0-9]*)`))

// read returns the topology with a text, or false if there is none, by matching all of it at once.
func read(s string) (api.Topology, bool) {
	if !textForm.MatchString(s) {
		return api.Topology{}, false
	}
	var t api.Topology
	last := -1
	for _, text := range strings.Split(strings.TrimSuffix(s, "\n"), "\n") {
		var numbers []int
		words := strings.Split(text, " ")
		for _, word := range words[1:] {
			// If a number is too great for an int, this one is the greatest int, which is too great for all of its places.
			n, _ := strconv.Atoi(word)
			numbers = append(numbers, n)
		}
		switch words[0] {
		case "nodes":
			t.Nodes = numbers[0]
			if t.Nodes < 1 || t.Nodes > 64 {
				return api.Topology{}, false
			}
		case "overload":
			if numbers[0] <= last || numbers[0] >= t.Nodes {
				return api.Topology{}, false
			}
			last = numbers[0]
			t.Overload = append(t.Overload, make([]bool, last-len(t.Overload))...)
			t.Overload = append(t.Overload, true)
		case "link":
			if !permitted(t.Nodes, numbers) {
				return api.Topology{}, false
			}
			t.Links = append(t.Links, api.Link{A: numbers[0], B: numbers[1], Cost: [2]int{numbers[2], numbers[3]}, Capacity: numbers[4], Delay: numbers[5], Group: numbers[6]})
		}
	}
	if len(t.Overload) > 0 {
		t.Overload = append(t.Overload, make([]bool, t.Nodes-len(t.Overload))...)
	}
	return t, len(t.Links) <= 256
}

// permitted tells whether the numbers of a line are those of a valid link.
func permitted(nodes int, numbers []int) bool {
	least, greatest := [7]int{0, 0, 1, 1, 0, 1, 0}, [7]int{nodes - 1, nodes - 1, 65535, 65535, 1 << 20, 1 << 16, 64}
	for i, n := range numbers {
		if n < least[i] || n > greatest[i] {
			return false
		}
	}
	return numbers[0] != numbers[1]
}

// expectKept checks that a topology is still as it was given.
func expectKept(t *testing.T, name string, x, given api.Topology) {
	t.Helper()
	if !identical(x, given) {
		t.Errorf("%s changed %v to %v", name, given, x)
	}
}

// short returns the beginning of a text about something.
func short(x any) string {
	s := fmt.Sprint(x)
	return s[:min(len(s), 200)]
}
