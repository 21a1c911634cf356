package codec_test

import (
	"bytes"
	"encoding/binary"
	"math"
	"math/rand"
	"slices"
	"testing"

	"waypoint/api"
	"waypoint/codec"
)

// expectNumber checks the encoding of a number in size bytes, in both directions, and that appending leaves alone what is there.
func expectNumber(t *testing.T, n uint64, size int, want []byte) {
	t.Helper()
	for _, before := range [][]byte{nil, {}, {9}, {0, 0}, {1, 2, 3, 4, 5, 6, 7, 8, 9}} {
		given := slices.Clone(before)
		b, e := codec.AppendUint(before, n, size)
		if e != api.OK || !bytes.Equal(b, slices.Concat(given, want)) {
			t.Errorf("AppendUint(%v, %d, %d): %v, error %d, want %v behind", given, n, size, b, e, want)
		}
		if !bytes.Equal(before, given) {
			t.Errorf("AppendUint(%v, %d, %d) changed its argument to %v", given, n, size, before)
		}
	}
	given := slices.Clone(want)
	if got, e := codec.Uint(want); e != api.OK || got != n {
		t.Errorf("Uint(%v): %d, error %d, want %d", given, got, e, n)
	}
	if !bytes.Equal(want, given) {
		t.Errorf("Uint changed %v to %v", given, want)
	}
}

// expectNoNumber checks that a number has no encoding in size bytes.
func expectNoNumber(t *testing.T, n uint64, size int, want api.Errno) {
	t.Helper()
	for _, before := range [][]byte{nil, {9}} {
		if b, e := codec.AppendUint(before, n, size); e != want || len(b) != 0 {
			t.Errorf("AppendUint(%v, %d, %d): %v, error %d, want %d", before, n, size, b, e, want)
		}
	}
}

// The examples of the chapter for numbers.
func TestNumberExamples(t *testing.T) {
	expectNumber(t, 300, 2, []byte{1, 44})
	expectNoNumber(t, 300, 1, api.ErrRange)
}

// P7.4: numbers and their encodings, written out.
func TestNumbers(t *testing.T) {
	for _, c := range []struct {
		n    uint64
		want []byte
	}{
		{0, []byte{0}}, {255, []byte{255}}, {0, []byte{0, 0, 0}}, {1, []byte{0, 1}}, {256, []byte{1, 0}}, {65535, []byte{255, 255}},
		{1, []byte{0, 0, 0, 0, 0, 0, 0, 1}}, {1 << 30, []byte{64, 0, 0, 0}}, {0x010203, []byte{1, 2, 3}}, {0x0a0b0c0d0e, []byte{10, 11, 12, 13, 14}},
		{0x0102030405, []byte{0, 1, 2, 3, 4, 5}}, {0x01020304050607, []byte{1, 2, 3, 4, 5, 6, 7}}, {0x0102030405060708, []byte{1, 2, 3, 4, 5, 6, 7, 8}},
		{1 << 63, []byte{128, 0, 0, 0, 0, 0, 0, 0}}, {math.MaxInt64, []byte{127, 255, 255, 255, 255, 255, 255, 255}}, {math.MaxUint64, bytes.Repeat([]byte{255}, 8)},
	} {
		expectNumber(t, c.n, len(c.want), c.want)
	}
}

// bytesOf returns the last size bytes of a number.
func bytesOf(n uint64, size int) []byte {
	return binary.BigEndian.AppendUint64(nil, n)[8-size:]
}

// fits tells whether a number has an encoding in size bytes; uint64 numbers always have one in 8 bytes.
func fits(n uint64, size int) bool {
	return size == 8 || n < uint64(1)<<(8*size)
}

// expectSizes checks a number with all sizes.
func expectSizes(t *testing.T, n uint64) {
	t.Helper()
	for size := 1; size <= 8; size++ {
		if fits(n, size) {
			expectNumber(t, n, size, bytesOf(n, size))
		} else {
			expectNoNumber(t, n, size, api.ErrRange)
		}
	}
}

// P7.4, P7.5: all numbers of up to two bytes, and those beside the powers of 2, with all sizes.
func TestNumbersEverySize(t *testing.T) {
	for n := range uint64(1<<16 + 1) {
		expectSizes(t, n)
	}
	for i := range 64 {
		for _, n := range []uint64{1<<i - 1, 1 << i, 1<<i + 1, math.MaxUint64 << i, math.MaxUint64 - 1<<i} {
			expectSizes(t, n)
		}
	}
}

// P7.4, P7.5: random numbers of all lengths.
func TestNumbersRandom(t *testing.T) {
	random := rand.New(rand.NewSource(74))
	for range 20000 {
		expectSizes(t, random.Uint64()>>random.Intn(64))
	}
}

// P7.4: sizes that are not from 1 to 8, even if the number would be out of range as well.
func TestSizes(t *testing.T) {
	for _, size := range []int{0, -1, -2, -8, 9, 10, 16, 64, 255, 256, 257, 264, 1 << 29, 1 << 32, 1<<32 + 1, 1 << 60, 1<<61 + 1, math.MinInt, math.MaxInt} {
		for _, n := range []uint64{0, 1, 255, 256, 1 << 32, math.MaxUint64} {
			expectNoNumber(t, n, size, api.ErrArg)
		}
	}
}

// P7.4: no bytes, or more than 8 of them, encode no number, whatever they are.
func TestUintForm(t *testing.T) {
	for _, n := range []int{0, 9, 10, 16, 255, 256, 257, 264, 65537} {
		for _, b := range [][]byte{make([]byte, n), bytes.Repeat([]byte{255}, n), pattern(n), append(make([]byte, n), 1)[:n]} {
			if got, e := codec.Uint(b); e != api.ErrForm || got != 0 {
				t.Errorf("Uint of %d bytes: %d, error %d, want ErrForm", n, got, e)
			}
		}
	}
	if got, e := codec.Uint(nil); e != api.ErrForm || got != 0 {
		t.Errorf("Uint(nil): %d, error %d, want ErrForm", got, e)
	}
}

// P7.5: every string of up to two bytes, and random ones of up to 8, comes back from its number.
func TestUintBack(t *testing.T) {
	for n := range 1 << 16 {
		expectBack(t, []byte{byte(n >> 8)})
		expectBack(t, []byte{byte(n >> 8), byte(n)})
	}
	random := rand.New(rand.NewSource(755))
	for range 20000 {
		b := make([]byte, 1+random.Intn(8))
		random.Read(b)
		expectBack(t, b)
	}
}

// expectBack checks that bytes are the encoding of their number.
func expectBack(t *testing.T, b []byte) {
	t.Helper()
	n, e := codec.Uint(b)
	back, e1 := codec.AppendUint(nil, n, len(b))
	if e != api.OK || e1 != api.OK || !bytes.Equal(back, b) {
		t.Errorf("AppendUint of Uint(%v): %v, errors %d %d", b, back, e, e1)
	}
}

// New memory: a number is not written into the memory behind its bytes, and the result shares none with them.
func TestAppendNewMemory(t *testing.T) {
	whole := []byte{1, 2, 3, 4, 5, 6, 7, 8, 9, 10, 11, 12}
	for n := range whole {
		memory := slices.Clone(whole)
		first, _ := codec.AppendUint(memory[:n], 0x1122334455667788, 8)
		second, _ := codec.AppendUint(memory[:n], 0, 1)
		if !bytes.Equal(memory, whole) {
			t.Errorf("behind %d bytes: the memory changed to %v", n, memory)
		}
		spoil(second)
		if !bytes.Equal(memory, whole) || !bytes.Equal(first[:n], whole[:n]) {
			t.Errorf("behind %d bytes: two results or a result and its argument share memory", n)
		}
		spoil(memory)
		if !bytes.Equal(first[:n], whole[:n]) {
			t.Errorf("behind %d bytes: the result changed with its argument", n)
		}
	}
}
