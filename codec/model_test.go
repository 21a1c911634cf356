package codec_test

import (
	"bytes"
	"fmt"
	"math/rand"
	"slices"
	"testing"

	"waypoint/api"
	"waypoint/codec"
)

// record returns the record of a type and a value.
func record(kind int, value ...byte) codec.Record {
	return codec.Record{Type: kind, Value: value}
}

// pattern returns n bytes in which every place of the first 65536 can be told from its neighbours.
func pattern(n int) []byte {
	b := make([]byte, n)
	for i := range b {
		b[i] = byte(i + i>>8)
	}
	return b
}

// short returns the beginning of a value's text: that of a list may be long.
func short(v any) string {
	s := fmt.Sprint(v)
	return s[:min(len(s), 200)]
}

// copies returns a list of records with memory of its own.
func copies(l []codec.Record) []codec.Record {
	c := slices.Clone(l)
	for i := range c {
		c[i].Value = slices.Clone(c[i].Value)
	}
	return c
}

// same tells whether two lists of records are equal.
func same(a, b []codec.Record) bool {
	return slices.EqualFunc(a, b, func(r, s codec.Record) bool {
		return r.Type == s.Type && bytes.Equal(r.Value, s.Value)
	})
}

// encoding returns the encoding of a list of valid records, by the chapter's definition.
func encoding(l []codec.Record) []byte {
	var b []byte
	for _, r := range l {
		n := len(r.Value)
		b = append(b, byte(r.Type), byte(n/256), byte(n%256))
		b = append(b, r.Value...)
	}
	return b
}

// expectEncode checks the encoding of a list, in both directions, and that neither changes.
func expectEncode(t *testing.T, l []codec.Record, want []byte) {
	t.Helper()
	given := copies(l)
	b, e := codec.Encode(l)
	if e != api.OK || !bytes.Equal(b, want) {
		t.Errorf("Encode(%s): %s, error %d, want %s", short(l), short(b), e, short(want))
	}
	if !same(l, given) {
		t.Errorf("Encode changed the list %s to %s", short(given), short(l))
	}
	if got := expectDecode(t, want); !same(got, l) {
		t.Errorf("Decode(%s): %s, want %s", short(want), short(got), short(l))
	}
}

// expectDecode checks that bytes are decoded and do not change, and that they are the encoding of the result, which it returns.
func expectDecode(t *testing.T, b []byte) []codec.Record {
	t.Helper()
	given := slices.Clone(b)
	l, e := codec.Decode(b)
	if e != api.OK {
		t.Errorf("Decode(%s): error %d", short(b), e)
	}
	if !bytes.Equal(b, given) {
		t.Errorf("Decode changed %s to %s", short(given), short(b))
	}
	if back, e := codec.Encode(l); e != api.OK || !bytes.Equal(back, given) {
		t.Errorf("Encode(Decode(%s)): %s, error %d", short(given), short(back), e)
	}
	return l
}

// expectForm checks that bytes are no encoding, which gives no record, and do not change.
func expectForm(t *testing.T, b []byte) {
	t.Helper()
	given := slices.Clone(b)
	if l, e := codec.Decode(b); e != api.ErrForm || len(l) != 0 {
		t.Errorf("Decode(%s): %s, error %d, want ErrForm", short(given), short(l), e)
	}
	if !bytes.Equal(b, given) {
		t.Errorf("Decode changed %s to %s", short(given), short(b))
	}
}

// samples returns the bytes of which the tests build all short strings: the least and the greatest ones, and one between.
func samples() []byte { return []byte{0, 1, 2, 255} }

// everyString returns all strings of n sample bytes.
func everyString(n int) [][]byte {
	all := [][]byte{nil}
	for range n {
		var longer [][]byte
		for _, b := range all {
			for _, c := range samples() {
				longer = append(longer, append(slices.Clone(b), c))
			}
		}
		all = longer
	}
	return all
}

// everyList returns all lists of records whose encodings have n bytes, all of them samples.
func everyList(n int) [][]codec.Record {
	if n == 0 {
		return [][]codec.Record{nil}
	}
	var all [][]codec.Record
	for length := range n - 2 {
		rests := everyList(n - 3 - length)
		for _, value := range everyString(length) {
			for _, kind := range samples()[1:] {
				for _, rest := range rests {
					all = append(all, append([]codec.Record{record(int(kind), value...)}, rest...))
				}
			}
		}
	}
	return all
}

// P7.2, P7.5: of all strings of up to 8 sample bytes exactly the encodings of lists are decoded, each to its list; different lists have different ones.
func TestEveryString(t *testing.T) {
	for n := range 9 {
		lists := make(map[string][]codec.Record)
		for _, l := range everyList(n) {
			b := string(encoding(l))
			if other, ok := lists[b]; ok {
				t.Fatalf("%v and %v have the same encoding", l, other)
			}
			lists[b] = l
		}
		for _, b := range everyString(n) {
			if l, ok := lists[string(b)]; ok {
				expectEncode(t, l, b)
			} else {
				expectForm(t, b)
			}
		}
	}
}

// P7.1, P7.5: every list of records whose encoding has at most 10 bytes, also those with lengths that are no samples.
func TestEveryList(t *testing.T) {
	for n := range 11 {
		for _, l := range everyList(n) {
			expectEncode(t, l, encoding(l))
		}
	}
}

// scatter returns a list of random records, most of them short.
func scatter(random *rand.Rand, size int) []codec.Record {
	var l []codec.Record
	for range random.Intn(size + 1) {
		limits := []int{1, 4, 4, 20, 300, 65536}
		value := make([]byte, random.Intn(limits[random.Intn(len(limits))]))
		random.Read(value)
		l = append(l, record(1+random.Intn(255), value...))
	}
	return l
}

// P7.1, P7.3, P7.5, P7.6: random lists are encoded and decoded, whole and in two parts, and Values finds all of their values.
func TestRandomLists(t *testing.T) {
	random := rand.New(rand.NewSource(75))
	for range 500 {
		l := scatter(random, 12)
		expectEncode(t, l, encoding(l))
		for range 3 {
			expectParts(t, l, random.Intn(len(l)+1))
		}
		for _, r := range append(scatter(random, 2), l...) {
			var want [][]byte
			for _, s := range l {
				if s.Type == r.Type {
					want = append(want, s.Value)
				}
			}
			expectValues(t, l, r.Type, want)
		}
	}
}

// P7.2, P7.5: random encodings with some bytes changed are decoded only if they are encodings again.
func TestRandomChanges(t *testing.T) {
	random := rand.New(rand.NewSource(72))
	found := make(map[bool]int)
	for range 5000 {
		b := encoding(append(scatter(random, 3), record(1, 2)))
		for range 1 + random.Intn(2) {
			b[random.Intn(min(len(b), 12))] = byte(random.Intn(6))
		}
		ok := wellFormed(b)
		found[ok]++
		if ok {
			expectDecode(t, b)
		} else {
			expectForm(t, b)
		}
	}
	if found[true] < 500 || found[false] < 500 {
		t.Errorf("too few cases of a kind: %v", found)
	}
}

// wellFormed tells whether bytes are an encoding, by going from one record to the next one.
func wellFormed(b []byte) bool {
	i := 0
	for i+2 < len(b) && b[i] != 0 {
		i += 3 + 256*int(b[i+1]) + int(b[i+2])
	}
	return i == len(b)
}

// P7.6: all short lists in two parts.
func TestEveryParts(t *testing.T) {
	for n := range 10 {
		for _, l := range everyList(n) {
			for i := range len(l) + 1 {
				expectParts(t, l, i)
			}
		}
	}
}

// expectParts checks that the encoding of a list is that of its first n records and that of the others, one after the other.
func expectParts(t *testing.T, l []codec.Record, n int) {
	t.Helper()
	whole, e := codec.Encode(l)
	first, e1 := codec.Encode(l[:n])
	second, e2 := codec.Encode(l[n:])
	if e != api.OK || e1 != api.OK || e2 != api.OK || !bytes.Equal(whole, slices.Concat(first, second)) {
		t.Errorf("Encode(%s) in parts at %d: %s and %s, whole: %s, errors %d %d %d", short(l), n, short(first), short(second), short(whole), e1, e2, e)
	}
}

// P7.6: every beginning of an encoding is decoded if it ends between two records, to those before, and otherwise not at all.
func TestBeginnings(t *testing.T) {
	random := rand.New(rand.NewSource(76))
	lists := [][]codec.Record{nil, {record(1)}, {record(1, 7, 8), record(2)}, {record(3, 1, 0, 0, 1, 0, 0), record(1, 1, 0, 0), record(255, pattern(300)...), record(1)}}
	for range 20 {
		l := scatter(random, 8)
		lists = append(lists, slices.DeleteFunc(l, func(r codec.Record) bool { return len(r.Value) > 300 }))
	}
	for n := range 9 {
		lists = append(lists, everyList(n)...)
	}
	for _, l := range lists {
		whole := encoding(l)
		records := map[int]int{0: 0}
		for i := range l {
			records[len(encoding(l[:i+1]))] = i + 1
		}
		for n := range len(whole) + 1 {
			count, between := records[n]
			if !between {
				expectForm(t, whole[:n])
			} else if got := expectDecode(t, whole[:n]); !same(got, l[:count]) {
				t.Errorf("Decode of the first %d bytes of %s: %s, want %s", n, short(whole), short(got), short(l[:count]))
			}
		}
	}
}

// P7.1, P7.5: a list of many records, and their encoding of more than a million bytes.
func TestManyRecords(t *testing.T) {
	var l []codec.Record
	for i := range 1 << 17 {
		l = append(l, record(1+i%255, pattern(i%16)...))
	}
	expectEncode(t, l, encoding(l))
	expectForm(t, append(encoding(l), 1))
}
