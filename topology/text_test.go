package topology_test

import (
	"math/rand"
	"slices"
	"strconv"
	"strings"
	"testing"

	"waypoint/api"
	"waypoint/topology"
)

// expectText checks the text of a topology, which does not change, and that the text of a valid one is read back.
func expectText(t *testing.T, x api.Topology, want string) {
	t.Helper()
	given := copied(x)
	if got := topology.Text(x); got != want {
		t.Errorf("Text(%s): %q, want %q", short(x), got, want)
	}
	expectKept(t, "Text", x, given)
	if want == "" {
		return
	}
	got, e := topology.Parse(want)
	if e != api.OK || !identical(got, normal(x)) || !topology.Same(got, x) {
		t.Errorf("Parse(%q): %s, error %d, want %s", want, short(got), e, short(normal(x)))
	}
}

// expectSyntax checks that a string is no text, which gives no topology.
func expectSyntax(t *testing.T, s string) {
	t.Helper()
	if x, e := topology.Parse(s); e != api.ErrSyntax || !identical(x, api.Topology{}) {
		t.Errorf("Parse(%.200q): %s, error %d, want ErrSyntax", s, short(x), e)
	}
}

// expectRead checks that a string is read as the pattern of all texts says.
func expectRead(t *testing.T, s string) {
	t.Helper()
	want, ok := read(s)
	if !ok {
		expectSyntax(t, s)
		return
	}
	if got, e := topology.Parse(s); e != api.OK || !identical(got, want) {
		t.Errorf("Parse(%.200q): %s, error %d, want %s", s, short(got), e, short(want))
	}
}

// P9.5, P9.6: texts, written out.
func TestText(t *testing.T) {
	expectText(t, api.Topology{Nodes: 1}, "nodes 1\n")
	expectText(t, api.Topology{Nodes: 64}, "nodes 64\n")
	expectText(t, api.Topology{Nodes: 2, Overload: []bool{}}, "nodes 2\n")
	expectText(t, api.Topology{Nodes: 2, Overload: []bool{false, false}}, "nodes 2\n")
	expectText(t, api.Topology{Nodes: 2, Overload: []bool{true, true}}, "nodes 2\noverload 0\noverload 1\n")
	expectText(t, api.Topology{Nodes: 12, Overload: []bool{9: true, 11: true}}, "nodes 12\noverload 9\noverload 11\n")
	expectText(t, meshed(), "nodes 5\noverload 1\noverload 4\nlink 0 1 1 2 10 1 0\nlink 1 2 4 8 10 1 0\nlink 1 0 16 32 10 1 0\nlink 0 1 64 128 10 1 0\nlink 2 0 256 512 10 1 0\nlink 2 1 1024 2048 10 1 0\nlink 4 2 4096 8192 10 1 0\n")
	x := api.Topology{Nodes: 64, Links: []api.Link{{A: 63, B: 62, Cost: [2]int{65535, 1}, Capacity: 1 << 20, Delay: 1 << 16, Group: 64}, {A: 0, B: 10, Cost: [2]int{10, 100}, Delay: 1000}}}
	expectText(t, x, "nodes 64\nlink 63 62 65535 1 1048576 65536 64\nlink 0 10 10 100 0 1000 0\n")
}

// P9.5, P9.6: every valid topology comes back from its text, and different ones have different texts.
func TestTextEvery(t *testing.T) {
	texts := make(map[string]api.Topology)
	for _, x := range samples() {
		s := written(x)
		expectText(t, x, s)
		if y, ok := texts[s]; ok && !topology.Same(x, y) {
			t.Errorf("%s and %s have the same text", short(x), short(y))
		}
		texts[s] = x
	}
}

// P9.5: numbers in every place, within their ranges and beside them, and written in other ways.
func TestParseNumbers(t *testing.T) {
	others := []string{"", " ", "+1", "-0", "-1", "00", "01", "001", "1e0", "0x1", "0b1", "1_0", "1.0", "a", "\u0661", "1048576", "1048577", "4294967296", "4294967297", "9223372036854775807", "9223372036854775808", "18446744073709551617", strings.Repeat("9", 5000), strings.Repeat("0", 5000), "1 1", "1\t", "\t1"}
	for _, n := range []int{0, 1, 2, 3, 4, 5, 6, 7, 63, 64, 65, 66, 65534, 65535, 65536, 65537} {
		others = append(others, strconv.Itoa(n))
	}
	words := strings.SplitAfter("nodes 6\noverload 2\noverload 4\nlink 5 3 4 4 4 4 4\nlink 3 5 4 4 4 4 4\n", " ")
	for i := 1; i < len(words); i++ {
		for _, n := range others {
			changed := slices.Clone(words)
			_, end, ok := strings.Cut(changed[i], "\n")
			if ok {
				end = "\n" + end
			} else {
				end = " "
			}
			changed[i] = n + end
			expectRead(t, strings.Join(changed, ""))
		}
	}
}

// P9.5: lines that are missing, doubled, exchanged, or of the wrong form.
func TestParseForm(t *testing.T) {
	for _, s := range []string{
		"", "\n", " ", "nodes", "nodes\n", "nodes \n", "nodes 3", "nodes 3 \n", "nodes  3\n", " nodes 3\n", "nodes\t3\n", "nodes 3\r\n", "nodes 3\r", "nodes 3\n\n", "\nnodes 3\n", "nodes 3\n ", "nodes 3\x00\n", "nodes 3 3\n", "nodes3\n",
		"node 3\n", "Nodes 3\n", "NODES 3\n", "nodesnodes 3\n", "3\n", "3 nodes\n", "\ufeffnodes 3\n", "nodes 3\n\ufeff", "nodes\u00a03\n", "nodes 3\u0085", "nodes 3\u2028", "\xffnodes 3\n", "nodes 3\v\n", "nodes\f3\n",
		"nodes 0\n", "nodes -1\n", "nodes 65\n", "nodes 03\n", "nodes +3\n", "nodes 3.\n", "nodes three\n", "nodes 9999999999999999999\n",
		"nodes 3\nnodes 3\n", "nodes 3\nnodes 4\n", "nodes 3\nnodes 0\n", "nodes 0\nnodes 3\n", "nodes 65\nnodes 3\n", "overload 1\n", "overload 1\nnodes 3\n", "link 0 1 1 1 1 1 1\n", "link 0 1 1 1 1 1 1\nnodes 3\n", "nodes 3\noverload 2\nnodes 2\n", "nodes 2\noverload 1\nnodes 3\n",
		"nodes 3\noverload\n", "nodes 3\noverload 3\n", "nodes 3\noverload -1\n", "nodes 3\noverload 1 2\n", "nodes 3\noverload 1 \n", "nodes 3\noverload 1\noverload 1\n", "nodes 3\noverload 2\noverload 1\n", "nodes 3\noverload 1", "nodes 3\nover 1\n", "nodes 3\noverload 01\n", "nodes 3\nOverload 1\n",
		"nodes 3\nlink\n", "nodes 3\nlink 0 1 1 1 1 1\n", "nodes 3\nlink 0 1 1 1 1 1 1 1\n", "nodes 3\nlink 0 1 1 1 1 1 1", "nodes 3\nlink 0  1 1 1 1 1 1\n", "nodes 3\nlink 0 1 1 1 1 1 1 \n", "nodes 3\nlink 0 1 1 1\n1 1 1\n", "nodes 3\nlink 0 1 1 1 1 1 1\noverload 1\n", "nodes 3\nlink 0 1 1 1 1 1 1 link 0 1 1 1 1 1 1\n", "nodes 3\nlinks 0 1 1 1 1 1 1\n", "nodes 3\nlink, 0 1 1 1 1 1 1\n",
		"nodes 3\n# comment\n", "nodes 3\nlink 0 1 1 1 1 1 1 # comment\n", "nodes 1\nlink 0 0 1 1 1 1 1\n", "nodes 3 overload 1\n", "nodes 3\n3\n",
	} {
		expectSyntax(t, s)
		if _, ok := read(s); ok {
			t.Errorf("the pattern of all texts matches %q", s)
		}
	}
}

// P9.5: lines of a text in any other order, and lines left out.
func TestParseOrder(t *testing.T) {
	lines := []string{"nodes 3\n", "overload 0\n", "overload 2\n", "link 0 1 1 1 1 1 1\n", "link 1 2 2 2 2 2 2\n"}
	lists := []string{""}
	for range 5 {
		var longer []string
		for _, s := range lists {
			for _, text := range lines {
				longer = append(longer, s+text)
			}
		}
		for _, s := range longer {
			expectRead(t, s)
		}
		lists = longer
	}
}

// P9.5: links that are not valid, in lines of a right form.
func TestParseInvalid(t *testing.T) {
	for _, x := range invalid() {
		if len(x.Overload) == 0 {
			expectSyntax(t, written(x))
		}
	}
}

// P9.5: whatever byte of a text is left out, doubled, replaced or added, and wherever it is cut off, only texts are read.
func TestParseChanged(t *testing.T) {
	for _, s := range []string{"nodes 1\n", "nodes 12\noverload 1\noverload 11\n", "nodes 3\noverload 1\nlink 0 1 2 3 10 1 0\nlink 1 2 4 5 0 65535 64\n"} {
		for i := range len(s) {
			for _, c := range "\x00\t\n\r +-0123456789anx\u00a0" {
				expectRead(t, s[:i]+string(c)+s[i:])
				expectRead(t, s[:i]+string(c)+s[i+1:])
			}
			expectRead(t, s[:i]+s[i+1:])
			expectRead(t, s[:i+1]+s[i:])
			expectRead(t, s[:i])
			expectRead(t, s[i:])
		}
	}
}

// P9.5: random lines of the words and numbers that occur in texts.
func TestParseRandom(t *testing.T) {
	random := rand.New(rand.NewSource(95))
	words := []string{"nodes ", "overload ", "link ", "\n", "\n", " "}
	for n := range 5 {
		words = append(words, strconv.Itoa(n), strconv.Itoa(n)+" ", strconv.Itoa(n)+"\n")
	}
	for range 20000 {
		s := "nodes 5\n"
		for range random.Intn(3) {
			s += []string{"overload 1\n", "overload 3\n", "link 0 1 2 3 4 5 6\n"}[random.Intn(3)]
		}
		for range random.Intn(12) {
			s += words[random.Intn(len(words))]
		}
		expectRead(t, s)
	}
}

// P9.5: too many links, and strings that are far too long.
func TestParseLong(t *testing.T) {
	const one = "link 0 1 1 1 1 1 1\n"
	expectRead(t, "nodes 2\n"+strings.Repeat(one, 255))
	expectRead(t, "nodes 2\n"+strings.Repeat(one, 256))
	expectRead(t, "nodes 2\n"+strings.Repeat(one, 257))
	for _, s := range []string{one, "overload 1\n", "nodes 2\n", "\n", " ", "\x00", "1", "1 ", "link ", "link 0 1 1 1 1 1 1 ", "link 0 1 1 1 1 1 \n"} {
		long := strings.Repeat(s, 4_000_000/len(s))
		expectSyntax(t, long)
		expectSyntax(t, "nodes 2\n"+long)
		expectSyntax(t, "nodes 2\nlink 0 1 1 1 1 1 1"+long)
		expectSyntax(t, "nodes 2\nlink 0 1 1 1 1 1 "+long)
	}
}

// P9.5: each topology that is read is of its own memory.
func TestParseNewMemory(t *testing.T) {
	s := written(meshed())
	got, _ := topology.Parse(s)
	other, _ := topology.Parse(s)
	got.Overload[0], got.Links[0] = true, api.Link{}
	if again, _ := topology.Parse(s); !identical(other, meshed()) || !identical(again, meshed()) {
		t.Errorf("a result shares memory: %v, %v", other, again)
	}
}
