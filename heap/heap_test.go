package heap_test

import (
	"math"
	"math/rand"
	"slices"
	"testing"

	"waypoint/api"
	"waypoint/heap"
)

// build returns a heap of a size without items.
func build(t *testing.T, n int) *heap.Heap {
	t.Helper()
	h, e := heap.New(n)
	if e != api.OK || h == nil {
		t.Fatalf("New(%d): %v, error %d", n, h, e)
	}
	return h
}

// filled returns a heap that holds the items 0 and up with the keys.
func filled(t *testing.T, keys ...int) *heap.Heap {
	t.Helper()
	h := build(t, len(keys))
	for i, k := range keys {
		set(t, h, i, k)
	}
	return h
}

// set gives an item a key, which has to be possible.
func set(t *testing.T, h *heap.Heap, i, key int) {
	t.Helper()
	if e := h.Set(i, key); e != api.OK {
		t.Errorf("Set(%d, %d): error %d", i, key, e)
	}
}

// remove removes an item, which has to be possible.
func remove(t *testing.T, h *heap.Heap, i int) {
	t.Helper()
	if e := h.Remove(i); e != api.OK {
		t.Errorf("Remove(%d): error %d", i, e)
	}
}

// expectKey checks the key of an item that the heap holds.
func expectKey(t *testing.T, h *heap.Heap, i, want int) {
	t.Helper()
	if k, ok := h.Key(i); !ok || k != want {
		t.Errorf("Key(%d): %d, %v, want %d", i, k, ok, want)
	}
}

// expectNoKey checks that the heap does not hold an item.
func expectNoKey(t *testing.T, h *heap.Heap, i int) {
	t.Helper()
	if k, ok := h.Key(i); ok || k != 0 {
		t.Errorf("Key(%d): %d, %v, want none", i, k, ok)
	}
}

// expectPops empties the heap, which has to give these pairs of an item and its key.
func expectPops(t *testing.T, h *heap.Heap, want ...[2]int) {
	t.Helper()
	for n, w := range want {
		if h.Len() != len(want)-n {
			t.Fatalf("before pop %d: Len is %d, want %d", n, h.Len(), len(want)-n)
		}
		if i, k, ok := h.Pop(); !ok || i != w[0] || k != w[1] {
			t.Fatalf("pop %d: %d, %d, %v, want %v", n, i, k, ok, w)
		}
		expectNoKey(t, h, w[0])
	}
	expectEmpty(t, h)
}

// expectEmpty checks that the heap holds no item.
func expectEmpty(t *testing.T, h *heap.Heap) {
	t.Helper()
	if h.Len() != 0 {
		t.Errorf("Len is %d, want 0", h.Len())
	}
	if i, k, ok := h.Pop(); ok || i != 0 || k != 0 {
		t.Errorf("Pop of an empty heap: %d, %d, %v", i, k, ok)
	}
}

// P3.1: sizes from 0 to 65536 are heaps without items.
func TestNew(t *testing.T) {
	for _, n := range []int{0, 1, 2, 7, 65535, 65536} {
		h := build(t, n)
		expectEmpty(t, h)
		for _, i := range []int{-1, 0, n - 1, n} {
			expectNoKey(t, h, i)
		}
		if n > 0 {
			set(t, h, n-1, 5)
			expectKey(t, h, n-1, 5)
		}
		if e := h.Set(n, 5); e != api.ErrRange {
			t.Errorf("Set(%d) in a heap of the size %d: error %d", n, n, e)
		}
	}
}

// P3.1: other sizes are errors, which come without a heap.
func TestNewInvalid(t *testing.T) {
	for _, n := range []int{-1, 65537, math.MinInt, math.MaxInt} {
		if h, e := heap.New(n); h != nil || e != api.ErrArg {
			t.Errorf("New(%d): %v, error %d", n, h, e)
		}
	}
}

// P3.2: an item that the heap does not hold is added.
func TestSetAdds(t *testing.T) {
	h := build(t, 4)
	set(t, h, 2, -7)
	expectKey(t, h, 2, -7)
	expectNoKey(t, h, 0)
	if h.Len() != 1 {
		t.Errorf("Len is %d, want 1", h.Len())
	}
	set(t, h, 0, -8)
	set(t, h, 3, -7)
	expectPops(t, h, [2]int{0, -8}, [2]int{2, -7}, [2]int{3, -7})
}

// P3.2: an item that the heap holds gets a lesser key, a greater one, or the same one; it is held once.
func TestSetReplaces(t *testing.T) {
	h := filled(t, 10, 20, 30, 40, 50)
	set(t, h, 4, 5)
	set(t, h, 0, 45)
	set(t, h, 2, 30)
	set(t, h, 1, 31)
	expectKey(t, h, 4, 5)
	expectKey(t, h, 0, 45)
	expectPops(t, h, [2]int{4, 5}, [2]int{2, 30}, [2]int{1, 31}, [2]int{3, 40}, [2]int{0, 45})
}

// P3.2: every change of one key of a heap, up or down past any number of other ones, leaves the right order.
func TestSetEveryChange(t *testing.T) {
	const n = 12
	for i := range n {
		for key := -1; key <= 2*n+1; key++ {
			h := build(t, n)
			keys := make(map[int]int)
			for j := range n {
				keys[j] = 2 * (j * 5 % n)
				set(t, h, j, keys[j])
			}
			keys[i] = key
			set(t, h, i, key)
			expectPops(t, h, sorted(keys)...)
		}
	}
}

// P3.2: an item that was taken out may come back.
func TestSetAgain(t *testing.T) {
	h := filled(t, 3, 1, 2)
	if i, k, ok := h.Pop(); i != 1 || k != 1 || !ok {
		t.Errorf("Pop: %d, %d, %v", i, k, ok)
	}
	remove(t, h, 2)
	set(t, h, 1, 4)
	set(t, h, 2, 4)
	expectPops(t, h, [2]int{0, 3}, [2]int{1, 4}, [2]int{2, 4})
}

// P3.2, P3.3: numbers that are no items are errors, and change nothing.
func TestNoItem(t *testing.T) {
	h := filled(t, 6, 5)
	for _, i := range []int{-1, 2, 3, 65536, math.MinInt, math.MaxInt} {
		if e := h.Set(i, 1); e != api.ErrRange {
			t.Errorf("Set(%d, 1): error %d", i, e)
		}
		if e := h.Remove(i); e != api.ErrRange {
			t.Errorf("Remove(%d): error %d", i, e)
		}
		expectNoKey(t, h, i)
	}
	expectPops(t, h, [2]int{1, 5}, [2]int{0, 6})
}

// P3.2, P3.3: a heap of the size 0 has no item at all, nor has the zero value.
func TestNoItems(t *testing.T) {
	for _, h := range []*heap.Heap{build(t, 0), {}} {
		if e := h.Set(0, 1); e != api.ErrRange {
			t.Errorf("Set: error %d", e)
		}
		if e := h.Remove(0); e != api.ErrRange {
			t.Errorf("Remove: error %d", e)
		}
		expectNoKey(t, h, 0)
		expectEmpty(t, h)
	}
}

// P3.3: a key of 0 differs from none.
func TestKeyZero(t *testing.T) {
	h := build(t, 2)
	set(t, h, 1, 0)
	expectKey(t, h, 1, 0)
	expectNoKey(t, h, 0)
}

// P3.3: an item is removed once; then the heap does not hold it.
func TestRemove(t *testing.T) {
	h := filled(t, 7, 3, 5, 1)
	remove(t, h, 2)
	expectNoKey(t, h, 2)
	if h.Len() != 3 {
		t.Errorf("Len is %d, want 3", h.Len())
	}
	if e := h.Remove(2); e != api.ErrNone {
		t.Errorf("Remove of an item that was removed: error %d", e)
	}
	if i, _, ok := h.Pop(); i != 3 || !ok {
		t.Errorf("Pop: %d, %v", i, ok)
	}
	if e := h.Remove(3); e != api.ErrNone {
		t.Errorf("Remove of an item that was popped: error %d", e)
	}
	expectPops(t, h, [2]int{1, 3}, [2]int{0, 7})
	if e := h.Remove(0); e != api.ErrNone {
		t.Errorf("Remove from an empty heap: error %d", e)
	}
}

// P3.3: whichever item is removed, the other ones keep their order.
func TestRemoveEach(t *testing.T) {
	const n = 20
	for i := range n {
		h := build(t, n)
		keys := make(map[int]int)
		for j := range n {
			keys[j] = j * 7 % n / 2
			set(t, h, j, keys[j])
		}
		remove(t, h, i)
		delete(keys, i)
		expectPops(t, h, sorted(keys)...)
	}
}

// P3.3: the item that fills a gap may have to go up, as it comes from another branch.
func TestRemoveFillerRises(t *testing.T) {
	h := filled(t, 0, 10, 1, 11, 12, 2, 3, 13, 14, 15, 16, 4)
	remove(t, h, 7)
	expectPops(t, h, [2]int{0, 0}, [2]int{2, 1}, [2]int{5, 2}, [2]int{6, 3}, [2]int{11, 4}, [2]int{1, 10},
		[2]int{3, 11}, [2]int{4, 12}, [2]int{8, 14}, [2]int{9, 15}, [2]int{10, 16})
}

// P3.5: the calls on a nil heap.
func TestNil(t *testing.T) {
	var h *heap.Heap
	for _, i := range []int{-1, 0, 1} {
		if e := h.Set(i, 1); e != api.ErrState {
			t.Errorf("Set(%d, 1): error %d", i, e)
		}
		if e := h.Remove(i); e != api.ErrState {
			t.Errorf("Remove(%d): error %d", i, e)
		}
		expectNoKey(t, h, i)
	}
	expectEmpty(t, h)
}

// P3.4, P3.6: equal keys come in the order of the numbers, in whatever order they were set.
func TestEqualKeys(t *testing.T) {
	for step := 1; step < 31; step++ {
		h := build(t, 31)
		keys := make(map[int]int)
		for n := range 31 {
			i := n * step % 31
			keys[i] = -i % 3
			set(t, h, i, keys[i])
		}
		expectPops(t, h, sorted(keys)...)
	}
}

// P3.4, P3.6: keys from one end of the integers to the other one.
func TestExtremeKeys(t *testing.T) {
	h := filled(t, math.MaxInt, 0, math.MinInt, -1, math.MaxInt, 1, math.MinInt)
	expectPops(t, h, [2]int{2, math.MinInt}, [2]int{6, math.MinInt}, [2]int{3, -1}, [2]int{1, 0},
		[2]int{5, 1}, [2]int{0, math.MaxInt}, [2]int{4, math.MaxInt})
}

// P3.6: the greatest heap comes in order.
func TestGreatest(t *testing.T) {
	const n = 65536
	h := build(t, n)
	keys := make(map[int]int)
	for i := range n {
		keys[i] = i * 40503 % 1009
		set(t, h, i, keys[i])
	}
	expectPops(t, h, sorted(keys)...)
}

// Two heaps share nothing.
func TestApart(t *testing.T) {
	a, b := filled(t, 2, 1), filled(t, 4, 8)
	set(t, a, 0, -3)
	remove(t, b, 0)
	expectPops(t, a, [2]int{0, -3}, [2]int{1, 1})
	expectPops(t, b, [2]int{1, 8})
}

// The examples of the chapter.
func TestExamples(t *testing.T) {
	h := build(t, 4)
	set(t, h, 0, 5)
	set(t, h, 1, 3)
	set(t, h, 3, 3)
	expectPops(t, h, [2]int{1, 3}, [2]int{3, 3}, [2]int{0, 5})
	set(t, h, 0, 5)
	set(t, h, 1, 3)
	set(t, h, 3, 3)
	set(t, h, 0, 2)
	expectPops(t, h, [2]int{0, 2}, [2]int{1, 3}, [2]int{3, 3})
}

// P3.2 to P3.4: any sequence of calls does to a heap what it does to a plain map of keys.
func TestLikeMap(t *testing.T) {
	random := rand.New(rand.NewSource(3))
	for range 400 {
		size := random.Intn(40)
		h := build(t, size)
		keys := make(map[int]int)
		for range 300 {
			compareStep(t, h, keys, random, size)
			if t.Failed() {
				return
			}
		}
		expectPops(t, h, sorted(keys)...)
	}
}

// compareStep does a random call to both the heap and the map, and compares what they hold.
func compareStep(t *testing.T, h *heap.Heap, keys map[int]int, random *rand.Rand, size int) {
	i, key := random.Intn(size+2)-1, random.Intn(30)-15
	inside := i >= 0 && i < size
	switch random.Intn(8) {
	case 0:
		compareRemove(t, h, keys, i, inside)
	case 1:
		comparePop(t, h, keys)
	default:
		if e := h.Set(i, key); (e == api.OK) != inside {
			t.Errorf("Set(%d, %d): error %d", i, key, e)
		}
		if inside {
			keys[i] = key
		}
	}
	if h.Len() != len(keys) {
		t.Errorf("Len is %d, want %d", h.Len(), len(keys))
	}
	for j := range size {
		if k, ok := keys[j]; ok {
			expectKey(t, h, j, k)
		} else {
			expectNoKey(t, h, j)
		}
	}
}

// compareRemove removes an item of both the heap and the map.
func compareRemove(t *testing.T, h *heap.Heap, keys map[int]int, i int, inside bool) {
	want := api.OK
	if !inside {
		want = api.ErrRange
	} else if _, ok := keys[i]; !ok {
		want = api.ErrNone
	}
	if e := h.Remove(i); e != want {
		t.Errorf("Remove(%d): error %d, want %d", i, e, want)
	}
	delete(keys, i)
}

// comparePop takes the first item of both the heap and the map.
func comparePop(t *testing.T, h *heap.Heap, keys map[int]int) {
	if len(keys) == 0 {
		expectEmpty(t, h)
		return
	}
	first := sorted(keys)[0]
	if i, k, ok := h.Pop(); !ok || [2]int{i, k} != first {
		t.Errorf("Pop: %d, %d, %v, want %v", i, k, ok, first)
	}
	delete(keys, first[0])
}

// sorted returns the items and keys of a map, by key and then by item.
func sorted(keys map[int]int) [][2]int {
	pairs := make([][2]int, 0, len(keys))
	for i, k := range keys {
		pairs = append(pairs, [2]int{i, k})
	}
	slices.SortFunc(pairs, func(a, b [2]int) int {
		if a[1] != b[1] {
			if a[1] < b[1] {
				return -1
			}
			return 1
		}
		return a[0] - b[0]
	})
	return pairs
}
