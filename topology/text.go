package topology

import (
	"strconv"
	"strings"

	"waypoint/api"
)

// The words with which the lines of a text begin.
const (
	nodesWord    = "nodes"
	overloadWord = "overload"
	linkWord     = "link"
)

// Text returns the text of a topology.
func Text(t api.Topology) string {
	if !Valid(t) {
		return ""
	}
	text := appendLine(nil, nodesWord, t.Nodes)
	for n := range t.Nodes {
		if overloaded(t, n) {
			text = appendLine(text, overloadWord, n)
		}
	}
	for _, l := range t.Links {
		text = appendLine(text, linkWord, l.A, l.B, l.Cost[0], l.Cost[1], l.Capacity, l.Delay, l.Group)
	}
	return string(text)
}

// Parse returns the topology with a text.
func Parse(s string) (api.Topology, api.Errno) {
	var t api.Topology
	for line := range strings.Lines(s) {
		if !readLine(&t, line) {
			return api.Topology{}, api.ErrSyntax
		}
	}
	// So far, the order of the lines, spaces, signs and zeros may be others than those of the text.
	if !Valid(t) || Text(t) != s {
		return api.Topology{}, api.ErrSyntax
	}
	return t, api.OK
}

// appendLine appends a line with a word and numbers.
func appendLine(text []byte, word string, numbers ...int) []byte {
	text = append(text, word...)
	for _, n := range numbers {
		text = append(text, ' ')
		text = strconv.AppendInt(text, int64(n), 10)
	}
	return append(text, '\n')
}

// readLine adds to a topology what a line says, or returns false if the line says nothing that may be added.
func readLine(t *api.Topology, line string) bool {
	return readNodes(t, line) || readOverload(t, line) || readLink(t, line)
}

// readNodes sets the number of nodes, once only, since Overload depends on it.
func readNodes(t *api.Topology, line string) bool {
	return t.Nodes == 0 && readNumbers(line, nodesWord, &t.Nodes) && within(t.Nodes, 1, api.MaxNodes)
}

// readOverload adds an overloaded node.
func readOverload(t *api.Topology, line string) bool {
	var n int
	if !readNumbers(line, overloadWord, &n) || !hasNode(*t, n) {
		return false
	}
	if len(t.Overload) == 0 {
		t.Overload = make([]bool, t.Nodes)
	}
	t.Overload[n] = true
	return true
}

// readLink adds a link.
func readLink(t *api.Topology, line string) bool {
	// Without this limit, a long string would need much memory before it turns out to be no text.
	if len(t.Links) == api.MaxLinks {
		return false
	}
	var l api.Link
	fields := [...]*int{&l.A, &l.B, &l.Cost[0], &l.Cost[1], &l.Capacity, &l.Delay, &l.Group}
	if !readNumbers(line, linkWord, fields[:]...) {
		return false
	}
	t.Links = append(t.Links, l)
	return true
}

// readNumbers sets numbers to those of a line, or returns false if the line does not consist of a certain first word and as many numbers.
func readNumbers(line, first string, to ...*int) bool {
	// The first word has the place 0, the numbers have those from 1 on.
	place := 0
	for word := range strings.FieldsSeq(line) {
		if place > len(to) || place == 0 && word != first {
			return false
		}
		if place > 0 && !readNumber(word, to[place-1]) {
			return false
		}
		place++
	}
	return place == len(to)+1
}

// readNumber sets a number to the one that is written as a word, or returns false if there is none.
func readNumber(word string, to *int) bool {
	n, err := strconv.Atoi(word)
	*to = n
	return err == nil
}
