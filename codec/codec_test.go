package codec_test

import (
	"bytes"
	"math"
	"slices"
	"testing"

	"waypoint/api"
	"waypoint/codec"
)

// The examples of the chapter for records.
func TestExamples(t *testing.T) {
	expectEncode(t, []codec.Record{record(1, 7, 8), record(2)}, []byte{1, 0, 2, 7, 8, 2, 0, 0})
	expectForm(t, []byte{1, 0, 2, 7})
	expectForm(t, []byte{0, 0, 0})
}

// P7.1, P7.2: lists and their encodings, written out.
func TestEncode(t *testing.T) {
	for _, c := range []struct {
		l    []codec.Record
		want []byte
	}{
		{nil, nil},
		{[]codec.Record{}, []byte{}},
		{[]codec.Record{record(1)}, []byte{1, 0, 0}},
		{[]codec.Record{{Type: 1, Value: []byte{}}}, []byte{1, 0, 0}},
		{[]codec.Record{record(1, 0)}, []byte{1, 0, 1, 0}},
		{[]codec.Record{record(255, 255)}, []byte{255, 0, 1, 255}},
		{[]codec.Record{record(1), record(1)}, []byte{1, 0, 0, 1, 0, 0}},
		{[]codec.Record{record(2), record(1), record(2)}, []byte{2, 0, 0, 1, 0, 0, 2, 0, 0}},
		{[]codec.Record{record(9, 1, 0, 0), record(9, 0, 0, 0)}, []byte{9, 0, 3, 1, 0, 0, 9, 0, 3, 0, 0, 0}},
		{[]codec.Record{record(128, 1), record(127, 0, 2), record(3)}, []byte{128, 0, 1, 1, 127, 0, 2, 0, 2, 3, 0, 0}},
		{[]codec.Record{record(1, 0, 3, 0, 0, 0, 1, 0, 0, 0, 2)}, []byte{1, 0, 10, 0, 3, 0, 0, 0, 1, 0, 0, 0, 2}},
	} {
		expectEncode(t, c.l, c.want)
	}
}

// P7.1, P7.2: every type, alone and between others.
func TestEveryType(t *testing.T) {
	for kind := 1; kind <= 255; kind++ {
		expectEncode(t, []codec.Record{record(kind, 5)}, []byte{byte(kind), 0, 1, 5})
		expectEncode(t, []codec.Record{record(1), record(kind), record(255)}, []byte{1, 0, 0, byte(kind), 0, 0, 255, 0, 0})
	}
}

// P7.1, P7.2: lengths with both of their bytes, up to the longest value.
func TestLengths(t *testing.T) {
	for _, n := range []int{0, 1, 2, 127, 128, 254, 255, 256, 257, 511, 512, 1000, 32767, 32768, 65279, 65280, 65534, 65535} {
		value := pattern(n)
		one := slices.Concat([]byte{7, byte(n / 256), byte(n % 256)}, value)
		expectEncode(t, []codec.Record{record(7, value...)}, one)
		expectEncode(t, []codec.Record{record(7, value...), record(7, value...), record(3, 4)}, slices.Concat(one, one, []byte{3, 0, 1, 4}))
		expectForm(t, one[:len(one)-1])
		expectForm(t, append(one, 7))
	}
}

// P7.1: types that no byte holds, and the one that is not permitted, also with values that are too long.
func TestEncodeTypes(t *testing.T) {
	for _, kind := range []int{0, -1, -2, -255, -256, 256, 257, 511, 512, 65536, 65537, 1<<32 + 1, math.MinInt, math.MinInt + 1, math.MaxInt} {
		for _, n := range []int{0, 1, 65535, 65536} {
			expectNoEncoding(t, codec.Record{Type: kind, Value: pattern(n)}, api.ErrArg)
		}
	}
}

// P7.1: values that are too long, also such ones whose length ends with the two bytes of a permitted one.
func TestEncodeLimit(t *testing.T) {
	for _, n := range []int{65536, 65537, 65538, 131071, 131072, 1 << 20} {
		for _, kind := range []int{1, 2, 255} {
			expectNoEncoding(t, codec.Record{Type: kind, Value: pattern(n)}, api.ErrLimit)
		}
	}
}

// expectNoEncoding checks that a record has an error, at whatever place it comes, and that an error of a later record does not matter.
func expectNoEncoding(t *testing.T, r codec.Record, want api.Errno) {
	t.Helper()
	for _, later := range []codec.Record{record(3, 3), record(0), record(4, pattern(65536)...)} {
		for n := range 3 {
			l := slices.Repeat([]codec.Record{record(1, 2)}, n)
			l = append(l, r, later)
			if b, e := codec.Encode(l); e != want || len(b) != 0 {
				t.Errorf("Encode with the type %d and %d bytes at place %d: %d bytes, error %d, want %d", r.Type, len(r.Value), n, len(b), e, want)
			}
		}
	}
}

// P7.2: bytes that end within a record, have a type 0, or have a length that goes beyond them.
func TestDecodeForm(t *testing.T) {
	for _, bad := range [][]byte{
		{0}, {1}, {255}, {0, 0}, {1, 0}, {1, 255}, {0, 0, 0}, {0, 0, 1}, {0, 0, 1, 5}, {0, 1, 0, 0},
		{1, 0, 1}, {1, 0, 2}, {1, 0, 2, 7}, {1, 1, 0}, {1, 1, 0, 5}, {1, 255, 255}, {255, 255, 255, 255}, {1, 128, 0, 0},
		{1, 0, 0, 0}, {1, 0, 0, 2}, {1, 0, 0, 2, 0}, {1, 0, 0, 0, 0, 0}, {1, 0, 0, 2, 0, 1},
		{1, 0, 1, 5, 0, 0, 1, 5}, {0, 0, 0, 1, 0, 0}, {1, 0, 0, 0, 0, 0, 2, 0, 0},
	} {
		expectForm(t, bad)
	}
	good := []byte{1, 0, 0, 2, 0, 2, 7, 8}
	expectForm(t, slices.Concat(good, []byte{0}))
	expectForm(t, slices.Concat([]byte{0}, good))
	expectForm(t, slices.Concat(good, []byte{3, 0, 9}, good))
	expectForm(t, make([]byte, 1<<16))
	expectForm(t, slices.Repeat([]byte{255}, 1<<16))
}

// P7.2: bytes behind the end of b, in its memory, are not read.
func TestDecodeEnd(t *testing.T) {
	whole := []byte{1, 0, 2, 7, 8, 2, 0, 0}
	for n := range whole {
		b := whole[:n]
		if n == 0 || n == 5 {
			expectDecode(t, b)
		} else {
			expectForm(t, b)
		}
	}
}

// P7.3: the values of a type, in the order of the records, whatever else is there.
func TestValues(t *testing.T) {
	long := pattern(70000)
	l := []codec.Record{record(2, 9), record(1, 1), record(2), record(255, 5, 6), record(2, 9), {Type: 0, Value: []byte{3}}, {Type: -1, Value: long}, record(2, 8, 7), {Type: 256, Value: []byte{4}}, {Type: math.MaxInt, Value: []byte{2}}, {Type: math.MinInt}}
	for _, c := range []struct {
		kind int
		want [][]byte
	}{
		{2, [][]byte{{9}, {}, {9}, {8, 7}}}, {1, [][]byte{{1}}}, {255, [][]byte{{5, 6}}}, {3, nil}, {254, nil}, {257, nil}, {512, nil}, {1 << 32, nil},
		{0, [][]byte{{3}}}, {-1, [][]byte{long}}, {256, [][]byte{{4}}}, {math.MaxInt, [][]byte{{2}}}, {math.MinInt, [][]byte{nil}}, {-2, nil},
	} {
		expectValues(t, l, c.kind, c.want)
		expectValues(t, nil, c.kind, nil)
		expectValues(t, []codec.Record{}, c.kind, nil)
	}
}

// expectValues checks the values of a type, and that the list stays as it is.
func expectValues(t *testing.T, l []codec.Record, kind int, want [][]byte) {
	t.Helper()
	given := copies(l)
	if got := codec.Values(l, kind); !slices.EqualFunc(got, want, bytes.Equal) {
		t.Errorf("Values of the type %d: %s, want %s", kind, short(got), short(want))
	}
	if !same(l, given) {
		t.Errorf("Values of the type %d changed the list", kind)
	}
}

// New memory: what is done to an encoding has no effect on its records, and the other way round.
func TestEncodeNewMemory(t *testing.T) {
	l := []codec.Record{record(1, 7, 8), record(2, 9)}
	first, _ := codec.Encode(l)
	second, _ := codec.Encode(l)
	want := []byte{1, 0, 2, 7, 8, 2, 0, 1, 9}
	spoil(first)
	if !bytes.Equal(second, want) {
		t.Errorf("a second encoding changed to %v", second)
	}
	expectEncode(t, l, want)
	spoil(l[0].Value)
	if !bytes.Equal(second, want) {
		t.Errorf("the encoding changed with a record, to %v", second)
	}
}

// New memory: the values of decoded records share none with the bytes, nor with one another.
func TestDecodeNewMemory(t *testing.T) {
	whole := []byte{1, 0, 2, 7, 8, 2, 0, 0, 3, 0, 1, 9}
	want := []codec.Record{record(1, 7, 8), record(2), record(3, 9)}
	for i := range want {
		b := slices.Clone(whole)
		l, _ := codec.Decode(b)
		other, _ := codec.Decode(b)
		spoil(l[i].Value)
		if !bytes.Equal(b, whole) || !same(other, want) {
			t.Errorf("value %d shares memory with the bytes %v or with %v", i, b, other)
		}
		for j := range l {
			if j != i && !same(l[j:j+1], want[j:j+1]) {
				t.Errorf("values %d and %d share memory", i, j)
			}
		}
		spoil(b)
		if !same(other, want) {
			t.Errorf("the records changed with the bytes, to %v", other)
		}
	}
}

// New memory: values share none with their records, nor with one another, even if those do.
func TestValuesNewMemory(t *testing.T) {
	shared := []byte{1, 2, 3, 4}
	l := []codec.Record{{Type: 1, Value: shared[:2]}, {Type: 1, Value: shared[2:]}, {Type: 1, Value: shared}, {Type: 1, Value: shared[:0]}}
	for i := range l {
		values := codec.Values(l, 1)
		spoil(values[i])
		if !bytes.Equal(shared, []byte{1, 2, 3, 4}) {
			t.Fatalf("value %d shares memory with the records", i)
		}
		for j, r := range l {
			if j != i && !bytes.Equal(values[j], r.Value) {
				t.Errorf("values %d and %d share memory", i, j)
			}
		}
	}
	values := codec.Values(l, 1)
	spoil(shared)
	if !bytes.Equal(values[2], []byte{1, 2, 3, 4}) {
		t.Errorf("a value changed with its record, to %v", values[2])
	}
}

// spoil overwrites bytes, and those that may be appended to them in their memory.
func spoil(b []byte) {
	b = b[:cap(b)]
	for i := range b {
		b[i] ^= 255
	}
}
