package nat_test

import (
	"math"
	"math/big"
	"strings"
	"testing"

	"waypoint/api"
	"waypoint/nat"
)

// parse returns the number with a text, which has at most 1000 digits.
func parse(t *testing.T, s string) nat.Nat {
	t.Helper()
	n, e := nat.Parse(s)
	if e != api.OK {
		t.Fatalf("Parse(%q): error %d", s, e)
	}
	return n
}

// expect checks the text of a number.
func expect(t *testing.T, what string, got nat.Nat, want string) {
	t.Helper()
	if s := nat.Text(got); s != want {
		t.Errorf("%s: got %s, want %s", what, s, want)
	}
}

// power returns 2^n as a text.
func power(n uint) string {
	return new(big.Int).Lsh(big.NewInt(1), n).String()
}

// samples returns numbers whose 32-bit digits are near the bounds of carries, borrows and guessed digits, and some without a pattern.
func samples() []*big.Int {
	digits := []uint64{0, 1, 2, 0x7fffffff, 0x80000000, 0x80000001, 0xfffffffe, 0xffffffff}
	list := []*big.Int{big.NewInt(0), big.NewInt(1), big.NewInt(2), big.NewInt(10), big.NewInt(1_000_000_000)}
	state := uint64(88172645463325252)
	next := func() uint64 {
		state ^= state << 13
		state ^= state >> 7
		state ^= state << 17
		return state
	}
	for size := 1; size <= 7; size++ {
		for i := range 20 {
			n := new(big.Int)
			for range size {
				d := digits[next()%uint64(len(digits))]
				if i%3 == 0 {
					d = next() >> 32
				}
				n.Lsh(n, 32).Or(n, new(big.Int).SetUint64(d))
			}
			list = append(list, n)
		}
	}
	return list
}

// sampleNumbers returns the samples as numbers.
func sampleNumbers(t *testing.T) []nat.Nat {
	t.Helper()
	var list []nat.Nat
	for _, n := range samples() {
		list = append(list, parse(t, n.String()))
	}
	return list
}

// P1.1: Of, with the values at the bounds of one and of two 32-bit digits.
func TestOf(t *testing.T) {
	for n, want := range map[uint64]string{
		0: "0", 1: "1", 9: "9", 10: "10", 999999999: "999999999", 1000000000: "1000000000",
		math.MaxUint32: "4294967295", 1 << 32: "4294967296", 1 << 63: "9223372036854775808",
		math.MaxUint64: "18446744073709551615",
	} {
		expect(t, "Of", nat.Of(n), want)
		if m, ok := nat.Uint64(nat.Of(n)); m != n || !ok {
			t.Errorf("Uint64(Of(%d)): %d %t", n, m, ok)
		}
	}
}

// P1.1: Parse of strings that are no texts; the syntax is checked before the length, and the result is 0.
func TestParseErrors(t *testing.T) {
	long := strings.Repeat("1", 1001)
	for s, want := range map[string]api.Errno{
		"": api.ErrSyntax, "00": api.ErrSyntax, "007": api.ErrSyntax, "01": api.ErrSyntax,
		"-1": api.ErrSyntax, "+1": api.ErrSyntax, "-0": api.ErrSyntax, " 1": api.ErrSyntax, "1 ": api.ErrSyntax,
		"1_000": api.ErrSyntax, "1.0": api.ErrSyntax, "1e3": api.ErrSyntax, "0x1": api.ErrSyntax, "a": api.ErrSyntax,
		"12/": api.ErrSyntax, "12:": api.ErrSyntax, "1\n": api.ErrSyntax, "1\x00": api.ErrSyntax, "\xff": api.ErrSyntax,
		"\u0661": api.ErrSyntax, "1\u0662": api.ErrSyntax, "\uff11": api.ErrSyntax,
		long: api.ErrLimit, long + "x": api.ErrSyntax, "x" + long: api.ErrSyntax, "0" + long: api.ErrSyntax,
		strings.Repeat("0", 1001): api.ErrSyntax, strings.Repeat("7", 5000): api.ErrLimit,
	} {
		n, e := nat.Parse(s)
		if e != want || !nat.IsZero(n) {
			t.Errorf("Parse(%.20q): %s, error %d, want error %d", s, nat.Text(n), e, want)
		}
	}
}

// P1.4, P1.1: Parse and Text undo each other, for each number of decimal digits and up to the limit of 1000.
func TestParseText(t *testing.T) {
	for n := 1; n <= 1000; n++ {
		for _, s := range []string{strings.Repeat("9", n), "1" + strings.Repeat("0", n-1), strings.Repeat("1234567890", 100)[:n]} {
			number := parse(t, s)
			expect(t, "Text(Parse)", number, s)
			again := parse(t, nat.Text(number))
			if nat.Cmp(number, again) != 0 {
				t.Fatalf("Parse(Text(%.20s)) is another number", s)
			}
		}
	}
	expect(t, "zero", parse(t, "0"), "0")
	for _, n := range samples() {
		expect(t, "sample", parse(t, n.String()), n.String())
	}
}

// P1.4: a number with more than 1000 digits has a text, but it is not parsed.
func TestTextBeyondLimit(t *testing.T) {
	greatest := parse(t, strings.Repeat("9", 1000))
	above := nat.Add(greatest, nat.Of(1))
	expect(t, "10^1000", above, "1"+strings.Repeat("0", 1000))
	square := nat.Mul(above, above)
	expect(t, "10^2000", square, "1"+strings.Repeat("0", 2000))
	if n, e := nat.Parse(nat.Text(above)); e != api.ErrLimit || !nat.IsZero(n) {
		t.Errorf("Parse of 1001 digits: error %d", e)
	}
}

// P1.1: the zero value stands for 0 in every function.
func TestZeroValue(t *testing.T) {
	var zero nat.Nat
	seven := nat.Of(7)
	expect(t, "Text", zero, "0")
	if !nat.IsZero(zero) || nat.Bits(zero) != 0 || nat.Cmp(zero, nat.Of(0)) != 0 || nat.Cmp(zero, seven) != -1 || nat.Cmp(seven, zero) != 1 {
		t.Error("IsZero, Bits or Cmp of the zero value")
	}
	if n, ok := nat.Uint64(zero); n != 0 || !ok {
		t.Error("Uint64 of the zero value", n, ok)
	}
	expect(t, "0+0", nat.Add(zero, zero), "0")
	expect(t, "0+7", nat.Add(zero, seven), "7")
	expect(t, "7+0", nat.Add(seven, zero), "7")
	expect(t, "0*7", nat.Mul(zero, seven), "0")
	expect(t, "7*0", nat.Mul(seven, zero), "0")
	expect(t, "gcd(0,0)", nat.GCD(zero, zero), "0")
	expect(t, "gcd(0,7)", nat.GCD(zero, seven), "7")
	expect(t, "gcd(7,0)", nat.GCD(seven, zero), "7")
	d, e := nat.Sub(zero, zero)
	if !nat.IsZero(d) || e != api.OK {
		t.Error("0-0", nat.Text(d), e)
	}
	q, r, e := nat.DivMod(zero, seven)
	if !nat.IsZero(q) || !nat.IsZero(r) || e != api.OK {
		t.Error("0/7", nat.Text(q), nat.Text(r), e)
	}
}

// P1.1: Bits and Uint64 around each power of 2.
func TestBitsUint64(t *testing.T) {
	one := nat.Of(1)
	for n := range uint(200) {
		p := parse(t, power(n))
		below, _ := nat.Sub(p, one)
		if nat.Bits(p) != int(n)+1 || nat.Bits(below) != int(n) || nat.IsZero(p) {
			t.Errorf("2^%d: %d bits, and %d for the number below", n, nat.Bits(p), nat.Bits(below))
		}
		got, ok := nat.Uint64(p)
		if want := uint64(1) << n; got != want || ok != (n < 64) {
			t.Errorf("Uint64(2^%d): %d %t", n, got, ok)
		}
		got, ok = nat.Uint64(below)
		if want := uint64(1)<<n - 1; n <= 64 && (got != want || !ok) || n > 64 && (got != 0 || ok) {
			t.Errorf("Uint64(2^%d-1): %d %t", n, got, ok)
		}
	}
}

// P1.1: Sub of a greater number, and its zero result.
func TestSubErrors(t *testing.T) {
	for _, x := range [][2]string{{"0", "1"}, {"4294967295", "4294967296"}, {"4294967296", "4294967297"}, {"4294967297", "8589934592"}, {"1", power(100)}, {power(100), power(101)}} {
		d, e := nat.Sub(parse(t, x[0]), parse(t, x[1]))
		if e != api.ErrRange || !nat.IsZero(d) {
			t.Errorf("%s - %s: %s, error %d", x[0], x[1], nat.Text(d), e)
		}
	}
}

// P1.1: DivMod by 0, and its zero results.
func TestDivModByZero(t *testing.T) {
	for _, s := range []string{"0", "1", "4294967296", power(64), power(1000)} {
		q, r, e := nat.DivMod(parse(t, s), nat.Nat{})
		if e != api.ErrDivide || !nat.IsZero(q) || !nat.IsZero(r) {
			t.Errorf("%s / 0: %s, %s, error %d", s, nat.Text(q), nat.Text(r), e)
		}
	}
}

// P1.1: the examples of the document.
func TestExamples(t *testing.T) {
	base := nat.Of(4294967296)
	product := nat.Mul(base, base)
	expect(t, "2^32 * 2^32", product, "18446744073709551616")
	if nat.Bits(product) != 65 {
		t.Error("bits", nat.Bits(product))
	}
	q, r, e := nat.DivMod(nat.Of(17), nat.Of(5))
	expect(t, "17/5", q, "3")
	expect(t, "17%5", r, "2")
	if e != api.OK {
		t.Error("17/5: error", e)
	}
	expect(t, "gcd(12,18)", nat.GCD(nat.Of(12), nat.Of(18)), "6")
	if _, e := nat.Parse("007"); e != api.ErrSyntax {
		t.Error("007: error", e)
	}
}

// P1.1: divisions whose digits are guessed too great, or cannot be guessed from two digits.
func TestHardDivisions(t *testing.T) {
	number := func(digits ...uint32) *big.Int {
		n := new(big.Int)
		for _, d := range digits {
			n.Lsh(n, 32).Or(n, new(big.Int).SetUint64(uint64(d)))
		}
		return n
	}
	for _, x := range [][2]*big.Int{
		{number(0x80000000, 0, 3), number(0x20000000, 0, 1)},
		{number(0x7fffffff, 0x80000000, 0, 0), number(0x80000000, 0, 0xffffffff)},
		{number(0x80000000, 0xfffffffe, 0, 0), number(0x80000000, 0xffffffff)},
		{number(0x80000000, 0, 0, 0), number(0x80000000, 0, 1)},
		{number(0xffffffff, 0xfffffffe, 0xffffffff), number(0xffffffff, 0xffffffff)},
		{number(0xffffffff, 0xffffffff, 0xffffffff, 0xffffffff), number(0x80000000, 0xffffffff)},
		{number(1, 0, 0), number(1, 1)},
	} {
		q, r, e := nat.DivMod(parse(t, x[0].String()), parse(t, x[1].String()))
		wantQ, wantR := new(big.Int).QuoRem(x[0], x[1], new(big.Int))
		if nat.Text(q) != wantQ.String() || nat.Text(r) != wantR.String() || e != api.OK {
			t.Errorf("%s / %s: %s, %s, error %d", x[0], x[1], nat.Text(q), nat.Text(r), e)
		}
	}
}

// P1.1: all functions of two numbers, against another implementation.
func TestAgainstBig(t *testing.T) {
	bigs, nats := samples(), sampleNumbers(t)
	for i, a := range bigs {
		if nat.Bits(nats[i]) != a.BitLen() || nat.IsZero(nats[i]) != (a.Sign() == 0) {
			t.Errorf("bits of %s: %d", a, nat.Bits(nats[i]))
		}
		if n, ok := nat.Uint64(nats[i]); ok != a.IsUint64() || ok && n != a.Uint64() || !ok && n != 0 {
			t.Errorf("Uint64 of %s: %d %t", a, n, ok)
		}
		for j, b := range bigs {
			checkPair(t, a, b, nats[i], nats[j])
		}
	}
}

// checkPair checks the functions of two numbers.
func checkPair(t *testing.T, a, b *big.Int, x, y nat.Nat) {
	t.Helper()
	if nat.Cmp(x, y) != a.Cmp(b) {
		t.Errorf("Cmp(%s, %s): %d", a, b, nat.Cmp(x, y))
	}
	expect(t, "Add", nat.Add(x, y), new(big.Int).Add(a, b).String())
	expect(t, "Mul", nat.Mul(x, y), new(big.Int).Mul(a, b).String())
	expect(t, "GCD", nat.GCD(x, y), new(big.Int).GCD(nil, nil, a, b).String())
	if d, e := nat.Sub(x, y); a.Cmp(b) >= 0 {
		expect(t, "Sub", d, new(big.Int).Sub(a, b).String())
		if e != api.OK {
			t.Errorf("%s - %s: error %d", a, b, e)
		}
	} else if e != api.ErrRange || !nat.IsZero(d) {
		t.Errorf("%s - %s: %s, error %d", a, b, nat.Text(d), e)
	}
	if b.Sign() == 0 {
		return
	}
	q, r, e := nat.DivMod(x, y)
	wantQ, wantR := new(big.Int).QuoRem(a, b, new(big.Int))
	if nat.Text(q) != wantQ.String() || nat.Text(r) != wantR.String() || e != api.OK {
		t.Errorf("%s / %s: %s, %s, error %d", a, b, nat.Text(q), nat.Text(r), e)
	}
}

// P1.1: the numbers are immutable, also where results share digits with arguments or with each other.
func TestImmutable(t *testing.T) {
	texts := []string{"0", "5", "4294967295", power(64), power(200), new(big.Int).Sub(new(big.Int).Lsh(big.NewInt(1), 224), big.NewInt(1)).String()}
	for _, s := range texts {
		for _, u := range texts {
			a, b := parse(t, s), parse(t, u)
			q, r, _ := nat.DivMod(a, b)
			results := []nat.Nat{a, b, q, r, nat.Add(a, b), nat.Mul(a, b), nat.GCD(a, b)}
			var before []string
			for _, n := range results {
				before = append(before, nat.Text(n))
			}
			for _, n := range results {
				for _, m := range results {
					nat.Add(n, m)
					nat.Sub(n, m)
					nat.Mul(n, m)
					nat.DivMod(n, m)
					nat.GCD(n, m)
				}
			}
			for i, n := range results {
				expect(t, "number after other calls", n, before[i])
			}
		}
	}
}

// P1.2: addition and multiplication are commutative, and Sub undoes Add.
func TestCommutative(t *testing.T) {
	list := sampleNumbers(t)
	for _, a := range list {
		for _, b := range list {
			sum := nat.Add(a, b)
			if nat.Cmp(sum, nat.Add(b, a)) != 0 || nat.Cmp(nat.Mul(a, b), nat.Mul(b, a)) != 0 {
				t.Errorf("%s and %s do not commute", nat.Text(a), nat.Text(b))
			}
			if d, e := nat.Sub(sum, b); e != api.OK || nat.Cmp(d, a) != 0 {
				t.Errorf("%s + %s - %s is %s, error %d", nat.Text(a), nat.Text(b), nat.Text(b), nat.Text(d), e)
			}
		}
	}
}

// P1.2: addition and multiplication are associative, and multiplication distributes over addition.
func TestAssociative(t *testing.T) {
	list := sampleNumbers(t)
	for i, a := range list {
		for j := i % 3; j < len(list); j += 3 {
			for k := j % 5; k < len(list); k += 5 {
				b, c := list[j], list[k]
				if nat.Cmp(nat.Add(nat.Add(a, b), c), nat.Add(a, nat.Add(b, c))) != 0 {
					t.Errorf("sum of %s, %s, %s", nat.Text(a), nat.Text(b), nat.Text(c))
				}
				if nat.Cmp(nat.Mul(nat.Mul(a, b), c), nat.Mul(a, nat.Mul(b, c))) != 0 {
					t.Errorf("product of %s, %s, %s", nat.Text(a), nat.Text(b), nat.Text(c))
				}
				if nat.Cmp(nat.Mul(a, nat.Add(b, c)), nat.Add(nat.Mul(a, b), nat.Mul(a, c))) != 0 {
					t.Errorf("%s times the sum of %s, %s", nat.Text(a), nat.Text(b), nat.Text(c))
				}
			}
		}
	}
}

// P1.3: a is q b + r, with r less than b, and products are divided without a remainder.
func TestDivision(t *testing.T) {
	list := sampleNumbers(t)
	for _, a := range list {
		for _, b := range list {
			if nat.IsZero(b) {
				continue
			}
			q, r, e := nat.DivMod(a, b)
			if e != api.OK || nat.Cmp(r, b) >= 0 || nat.Cmp(nat.Add(nat.Mul(q, b), r), a) != 0 {
				t.Errorf("%s / %s: %s, %s, error %d", nat.Text(a), nat.Text(b), nat.Text(q), nat.Text(r), e)
			}
			q, r, e = nat.DivMod(nat.Mul(a, b), b)
			if e != api.OK || !nat.IsZero(r) || nat.Cmp(q, a) != 0 {
				t.Errorf("%s * %s / %s: %s, %s, error %d", nat.Text(a), nat.Text(b), nat.Text(b), nat.Text(q), nat.Text(r), e)
			}
		}
	}
}

// divides reports whether d divides n.
func divides(d, n nat.Nat) bool {
	if nat.IsZero(d) {
		return nat.IsZero(n)
	}
	_, r, e := nat.DivMod(n, d)
	return e == api.OK && nat.IsZero(r)
}

// P1.3: the greatest common divisor divides both numbers and is a multiple of every common divisor.
func TestGreatestCommonDivisor(t *testing.T) {
	list := sampleNumbers(t)
	for i, a := range list {
		for j, b := range list {
			common := list[(i*7+j*3)%len(list)]
			g := nat.GCD(nat.Mul(a, common), nat.Mul(b, common))
			if !divides(g, nat.Mul(a, common)) || !divides(g, nat.Mul(b, common)) || !divides(common, g) {
				t.Errorf("%s and %s, times %s: %s", nat.Text(a), nat.Text(b), nat.Text(common), nat.Text(g))
			}
			if want := nat.Mul(nat.GCD(a, b), common); nat.Cmp(g, want) != 0 {
				t.Errorf("%s and %s, times %s: %s, want %s", nat.Text(a), nat.Text(b), nat.Text(common), nat.Text(g), nat.Text(want))
			}
		}
	}
	for a := range uint64(40) {
		for b := range uint64(40) {
			g, _ := nat.Uint64(nat.GCD(nat.Of(a), nat.Of(b)))
			for d := uint64(1); d < 40; d++ {
				if common := a%d == 0 && b%d == 0; common && g%d != 0 || common && d > g && a+b > 0 {
					t.Errorf("gcd of %d and %d is %d, but %d divides both", a, b, g, d)
				}
			}
		}
	}
}
