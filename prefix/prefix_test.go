package prefix_test

import (
	"math"
	"math/rand"
	"testing"

	"waypoint/api"
	"waypoint/prefix"
)

// ip returns the address with four bytes.
func ip(a, b, c, d uint32) uint32 {
	return a<<24 | b<<16 | c<<8 | d
}

// get returns the prefix with a text, which has to be one.
func get(t *testing.T, s string) api.Prefix {
	t.Helper()
	p, e := prefix.Parse(s)
	if e != api.OK {
		t.Fatalf("Parse(%q): error %d", s, e)
	}
	return p
}

// bounds returns the first address of a valid prefix and the first one behind it.
func bounds(p api.Prefix) (from, to uint64) {
	from = uint64(p.Addr)
	return from, from + uint64(1)<<(32-p.Len)
}

// samples returns valid prefixes of every length: the first ones, the last ones, and some without a pattern.
func samples() []api.Prefix {
	random := rand.New(rand.NewSource(4))
	var list []api.Prefix
	for n := 0; n <= 32; n++ {
		mask := uint32(uint64(1)<<32 - uint64(1)<<(32-n))
		addrs := []uint32{0, math.MaxUint32, 1 << 31, math.MaxInt32, ip(10, 0, 0, 0), 0xaaaaaaaa, 0x55555555}
		for range 4 {
			addrs = append(addrs, random.Uint32())
		}
		for _, a := range addrs {
			list = append(list, api.Prefix{Addr: a & mask, Len: n})
		}
	}
	return list
}

// invalid returns prefixes that are not valid: with lengths out of range, and with a bit behind their length.
func invalid() []api.Prefix {
	var list []api.Prefix
	for _, n := range []int{-1, 33, -32, 34, 64, 255, 256, 1 << 32, 1<<32 + 8, math.MinInt, math.MaxInt} {
		for _, a := range []uint32{0, ip(10, 0, 0, 0), math.MaxUint32} {
			list = append(list, api.Prefix{Addr: a, Len: n})
		}
	}
	for n := range 32 {
		for bit := range 32 - n {
			list = append(list, api.Prefix{Addr: 1 << bit, Len: n})
		}
		list = append(list, api.Prefix{Addr: math.MaxUint32, Len: n})
	}
	return list
}

// P4.1: Valid looks at the length and at the bits behind it.
func TestValid(t *testing.T) {
	for _, p := range samples() {
		if !prefix.Valid(p) {
			t.Errorf("Valid(%v) is false", p)
		}
	}
	for _, p := range invalid() {
		if prefix.Valid(p) {
			t.Errorf("Valid(%v) is true", p)
		}
	}
}

// P4.1: a prefix contains the addresses from its first to its last one, and no other one.
func TestContains(t *testing.T) {
	for _, p := range samples() {
		from, to := bounds(p)
		addrs := []uint64{0, math.MaxUint32, from, to - 1, (from + to) / 2, from - 1, to, from ^ 1<<31, to - 1 ^ 1<<31}
		for _, q := range samples() {
			addrs = append(addrs, uint64(q.Addr))
		}
		for _, a := range addrs {
			addr := uint32(a)
			want := uint64(addr) >= from && uint64(addr) < to
			if got := prefix.Contains(p, addr); got != want {
				t.Fatalf("Contains(%v, %#x): %t, want %t", p, addr, got, want)
			}
		}
	}
}

// P4.1: prefixes that are not valid contain no address, cover nothing, are covered by nothing, and have no halves and no parent.
func TestInvalid(t *testing.T) {
	all := api.Prefix{}
	for _, p := range invalid() {
		if prefix.Contains(p, p.Addr) || prefix.Contains(p, 0) || prefix.Contains(p, math.MaxUint32) {
			t.Errorf("%v contains an address", p)
		}
		if prefix.Covers(p, p) || prefix.Covers(all, p) || prefix.Covers(p, all) || prefix.Covers(p, api.Prefix{Addr: p.Addr, Len: 32}) {
			t.Errorf("%v covers a prefix or is covered", p)
		}
		if lo, hi, e := prefix.Split(p); e != api.ErrArg || lo != all || hi != all {
			t.Errorf("Split(%v): %v, %v, error %d", p, lo, hi, e)
		}
		if parent, e := prefix.Parent(p); e != api.ErrArg || parent != all {
			t.Errorf("Parent(%v): %v, error %d", p, parent, e)
		}
		if s := prefix.Text(p); s != "" {
			t.Errorf("Text(%v): %q", p, s)
		}
	}
}

// P4.1, P4.3: a prefix covers another one if it contains its addresses; otherwise the other one covers it, or they have no address in common.
func TestCovers(t *testing.T) {
	list := samples()
	for _, p := range list {
		pFrom, pTo := bounds(p)
		for _, q := range list {
			qFrom, qTo := bounds(q)
			want := pFrom <= qFrom && qTo <= pTo
			if got := prefix.Covers(p, q); got != want {
				t.Fatalf("Covers(%v, %v): %t, want %t", p, q, got, want)
			}
			apart := pTo <= qFrom || qTo <= pFrom
			if apart == (prefix.Covers(p, q) || prefix.Covers(q, p)) {
				t.Fatalf("%v and %v: apart %t", p, q, apart)
			}
		}
	}
}

// P4.1, P4.3: the halves lie beside one another, make up the prefix, and have it as their parent.
func TestSplit(t *testing.T) {
	for _, p := range samples() {
		if p.Len == 32 {
			continue
		}
		lo, hi, e := prefix.Split(p)
		if e != api.OK || !prefix.Valid(lo) || !prefix.Valid(hi) || lo.Len != p.Len+1 || hi.Len != p.Len+1 {
			t.Fatalf("Split(%v): %v, %v, error %d", p, lo, hi, e)
		}
		from, to := bounds(p)
		loFrom, loTo := bounds(lo)
		hiFrom, hiTo := bounds(hi)
		if loFrom != from || loTo != hiFrom || hiTo != to {
			t.Errorf("Split(%v): %v and %v do not make it up", p, lo, hi)
		}
		for _, half := range []api.Prefix{lo, hi} {
			if parent, e := prefix.Parent(half); e != api.OK || parent != p {
				t.Errorf("Parent(%v): %v, error %d, want %v", half, parent, e, p)
			}
		}
	}
}

// P4.1, P4.3: a prefix is a half of its parent, and of nothing longer or shorter.
func TestParent(t *testing.T) {
	for _, p := range samples() {
		if p.Len == 0 {
			continue
		}
		parent, e := prefix.Parent(p)
		if e != api.OK || parent.Len != p.Len-1 || !prefix.Covers(parent, p) {
			t.Fatalf("Parent(%v): %v, error %d", p, parent, e)
		}
		if lo, hi, e := prefix.Split(parent); e != api.OK || (lo != p) == (hi != p) {
			t.Errorf("Split(%v): %v, %v, error %d, want %v as one half", parent, lo, hi, e, p)
		}
	}
}

// P4.1: a single address has no halves, and the set of all addresses no parent.
func TestEnds(t *testing.T) {
	for _, a := range []uint32{0, 1, ip(1, 2, 3, 4), math.MaxUint32} {
		p := api.Prefix{Addr: a, Len: 32}
		if lo, hi, e := prefix.Split(p); e != api.ErrRange || lo != (api.Prefix{}) || hi != (api.Prefix{}) {
			t.Errorf("Split(%v): %v, %v, error %d", p, lo, hi, e)
		}
	}
	if p, e := prefix.Parent(api.Prefix{}); e != api.ErrRange || p != (api.Prefix{}) {
		t.Errorf("Parent of all addresses: %v, error %d", p, e)
	}
}

// P4.1: the order is by Addr, as a number without a sign, and then by Len, whether the prefixes are valid or not.
func TestCompare(t *testing.T) {
	ordered := []api.Prefix{
		{Addr: 0, Len: math.MinInt}, {Addr: 0, Len: -1}, {}, {Addr: 0, Len: 1}, {Addr: 0, Len: 32}, {Addr: 0, Len: 33}, {Addr: 0, Len: math.MaxInt},
		{Addr: 1, Len: math.MinInt}, {Addr: 1, Len: 0}, {Addr: 1, Len: 32},
		{Addr: ip(10, 1, 0, 0), Len: 16}, {Addr: ip(10, 1, 0, 0), Len: 17}, {Addr: ip(10, 1, 2, 0), Len: 8},
		{Addr: math.MaxInt32, Len: 32}, {Addr: 1 << 31, Len: 1}, {Addr: 1 << 31, Len: 2},
		{Addr: math.MaxUint32, Len: math.MinInt}, {Addr: math.MaxUint32, Len: 32}, {Addr: math.MaxUint32, Len: math.MaxInt},
	}
	for i, p := range ordered {
		for j, q := range ordered {
			want := 0
			if i < j {
				want = -1
			} else if i > j {
				want = 1
			}
			if got := prefix.Compare(p, q); got != want {
				t.Errorf("Compare(%v, %v): %d, want %d", p, q, got, want)
			}
		}
	}
}

// The examples of the chapter.
func TestExamples(t *testing.T) {
	if !prefix.Covers(get(t, "10.1.0.0/16"), get(t, "10.1.2.0/24")) || prefix.Covers(get(t, "10.1.2.0/24"), get(t, "10.1.0.0/16")) {
		t.Error("10.1.0.0/16 and 10.1.2.0/24")
	}
	lo, hi, e := prefix.Split(get(t, "10.0.0.0/8"))
	if e != api.OK || lo != get(t, "10.0.0.0/9") || hi != get(t, "10.128.0.0/9") {
		t.Errorf("the halves of 10.0.0.0/8: %v, %v, error %d", lo, hi, e)
	}
	expectAggregate(t, list(t, "10.0.1.0/24", "10.0.0.0/24", "10.0.1.128/25", "10.0.2.0/24"), list(t, "10.0.0.0/23", "10.0.2.0/24"))
}
