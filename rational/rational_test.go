package rational_test

import (
	"math"
	"math/big"
	"slices"
	"strings"
	"testing"

	"waypoint/api"
	"waypoint/nat"
	"waypoint/rational"
)

// natural returns the natural number with a text.
func natural(t *testing.T, s string) nat.Nat {
	t.Helper()
	n, e := nat.Parse(s)
	if e != api.OK {
		t.Fatalf("nat.Parse(%.20q): error %d", s, e)
	}
	return n
}

// parse returns the number that is written as a string.
func parse(t *testing.T, s string) rational.Rat {
	t.Helper()
	a, e := rational.Parse(s)
	if e != api.OK {
		t.Fatalf("Parse(%.20q): error %d", s, e)
	}
	return a
}

// expect checks a number: its text, its sign, and that it is in lowest terms.
func expect(t *testing.T, what string, got rational.Rat, want string) {
	t.Helper()
	if s := rational.Text(got); s != want {
		t.Errorf("%s: got %s, want %s", what, s, want)
	}
	if d := nat.GCD(rational.Num(got), rational.Den(got)); nat.Text(d) != "1" {
		t.Errorf("%s: numerator and denominator of %s have the divisor %s", what, want, nat.Text(d))
	}
	sign := 1
	if want == "0" {
		sign = 0
	} else if want[0] == '-' {
		sign = -1
	}
	if rational.Sign(got) != sign {
		t.Errorf("%s: Sign of %s is %d", what, want, rational.Sign(got))
	}
}

// expectZero checks the number that comes with an error.
func expectZero(t *testing.T, what string, got rational.Rat, e, want api.Errno) {
	t.Helper()
	if e != want {
		t.Errorf("%s: error %d, want %d", what, e, want)
	}
	expect(t, what, got, "0")
}

// bigText returns the text of a number of math/big.
func bigText(a *big.Rat) string {
	return a.RatString()
}

// samples returns numbers of both signs, small and long, with and without divisors in common.
func samples() []*big.Rat {
	var list []*big.Rat
	for _, s := range []string{
		"0", "1", "-1", "2", "-2", "1/2", "-1/2", "1/3", "-1/3", "2/3", "5/6", "-5/6", "7/2", "-7/2", "7/6", "1/9", "-1/9", "4/9",
		"9223372036854775807", "-9223372036854775808", "18446744073709551616/3", "-1/18446744073709551616", "18446744073709551615/18446744073709551614",
		"4294967296/4294967295", "-4294967295/8589934592", "1/4294967296",
		"340282366920938463463374607431768211456/6", "-340282366920938463463374607431768211455/340282366920938463463374607431768211456",
		"123456789012345678901234567890/98765432109876543210", "-1000000000000000000000/999999999999999999999", "1/1000000000000000000000000000000",
	} {
		a, _ := new(big.Rat).SetString(s)
		list = append(list, a)
	}
	return list
}

// sampleNumbers returns the samples as numbers.
func sampleNumbers(t *testing.T) []rational.Rat {
	t.Helper()
	var list []rational.Rat
	for _, a := range samples() {
		list = append(list, parse(t, bigText(a)))
	}
	return list
}

// P2.1: Of, with both signs in both places, the bounds of int, and the denominator 0.
func TestOf(t *testing.T) {
	for _, x := range []struct {
		num, den int
		want     string
	}{
		{0, 1, "0"}, {0, -1, "0"}, {0, 12, "0"}, {6, 4, "3/2"}, {-6, 4, "-3/2"}, {6, -4, "-3/2"}, {-6, -4, "3/2"},
		{1, 1, "1"}, {-3, 3, "-1"}, {3, -1, "-3"}, {12, 18, "2/3"},
		{math.MinInt, 1, "-9223372036854775808"}, {math.MinInt, -1, "9223372036854775808"}, {math.MinInt, math.MinInt, "1"},
		{1, math.MinInt, "-1/9223372036854775808"}, {-1, math.MinInt, "1/9223372036854775808"},
		{math.MaxInt, math.MinInt, "-9223372036854775807/9223372036854775808"}, {math.MaxInt, math.MaxInt, "1"},
	} {
		a, e := rational.Of(x.num, x.den)
		expect(t, "Of", a, x.want)
		if e != api.OK {
			t.Errorf("Of(%d, %d): error %d", x.num, x.den, e)
		}
	}
	for _, num := range []int{0, 1, -1, math.MinInt, math.MaxInt} {
		a, e := rational.Of(num, 0)
		expectZero(t, "Of with the denominator 0", a, e, api.ErrDivide)
	}
}

// P2.1: Int, with the bounds of int.
func TestInt(t *testing.T) {
	for n, want := range map[int]string{0: "0", 1: "1", -1: "-1", 12: "12", math.MaxInt: "9223372036854775807", math.MinInt: "-9223372036854775808"} {
		expect(t, "Int", rational.Int(n), want)
	}
}

// P2.1: Make, with its signs, and the denominator 0.
func TestMake(t *testing.T) {
	for _, x := range []struct {
		neg            bool
		num, den, want string
	}{
		{false, "10", "4", "5/2"}, {true, "10", "4", "-5/2"}, {true, "0", "4", "0"}, {false, "0", "1", "0"}, {true, "7", "1", "-7"},
		{false, "18446744073709551616", "36893488147419103232", "1/2"}, {true, "340282366920938463463374607431768211456", "18446744073709551616", "-18446744073709551616"},
	} {
		a, e := rational.Make(x.neg, natural(t, x.num), natural(t, x.den))
		expect(t, "Make", a, x.want)
		if e != api.OK {
			t.Errorf("Make(%t, %s, %s): error %d", x.neg, x.num, x.den, e)
		}
	}
	for _, num := range []string{"0", "1", "18446744073709551616"} {
		a, e := rational.Make(true, natural(t, num), nat.Nat{})
		expectZero(t, "Make with the denominator 0", a, e, api.ErrDivide)
	}
}

// P2.1: Parse of all forms, also with divisors in common, signed zeros, and parts of 1000 digits.
func TestParse(t *testing.T) {
	nines := strings.Repeat("9", 1000)
	for s, want := range map[string]string{
		"0": "0", "-0": "0", "0/1": "0", "-0/1": "0", "0/12": "0", "-0/7": "0", "1": "1", "-1": "-1", "5/1": "5", "-5/1": "-5",
		"-6/4": "-3/2", "6/3": "2", "3/6": "1/2", "2/4": "1/2", "7/7": "1", "-7/7": "-1", "10/15": "2/3",
		"18446744073709551616/2": "9223372036854775808", nines: nines, "-" + nines: "-" + nines, "1/" + nines: "1/" + nines, nines + "/" + nines: "1",
	} {
		expect(t, "Parse", parse(t, s), want)
	}
}

// P2.1: Parse of other strings. A wrong form comes before too many digits, and both before the denominator 0.
func TestParseErrors(t *testing.T) {
	long := strings.Repeat("1", 1001)
	for s, want := range map[string]api.Errno{
		"": api.ErrSyntax, "-": api.ErrSyntax, "/": api.ErrSyntax, "-/": api.ErrSyntax, "1/": api.ErrSyntax, "/1": api.ErrSyntax, "-/1": api.ErrSyntax,
		"--1": api.ErrSyntax, "+1": api.ErrSyntax, "1-": api.ErrSyntax, "1/-2": api.ErrSyntax, "1/+2": api.ErrSyntax, "-1/-2": api.ErrSyntax,
		"01": api.ErrSyntax, "00": api.ErrSyntax, "-01": api.ErrSyntax, "1/02": api.ErrSyntax, "1/00": api.ErrSyntax, "01/2": api.ErrSyntax,
		"1/2/3": api.ErrSyntax, "1//2": api.ErrSyntax, "1/2/": api.ErrSyntax, " 1": api.ErrSyntax, "1 ": api.ErrSyntax, "1 /2": api.ErrSyntax, "1/ 2": api.ErrSyntax,
		"- 1": api.ErrSyntax, "1.5": api.ErrSyntax, "1e2": api.ErrSyntax, "x": api.ErrSyntax, "1/x": api.ErrSyntax, "x/1": api.ErrSyntax, "x/0": api.ErrSyntax,
		"\u22121": api.ErrSyntax, "1\u20442": api.ErrSyntax, "\xff": api.ErrSyntax, "1\x00": api.ErrSyntax,
		long: api.ErrLimit, "-" + long: api.ErrLimit, "1/" + long: api.ErrLimit, long + "/1": api.ErrLimit, long + "/" + long: api.ErrLimit,
		long + "/0": api.ErrLimit, "0/" + long: api.ErrLimit, long + "/x": api.ErrSyntax, "x/" + long: api.ErrSyntax, long + "/": api.ErrSyntax,
		"01/" + long: api.ErrSyntax, long + "/01": api.ErrSyntax, "--" + long: api.ErrSyntax,
		"1/0": api.ErrDivide, "0/0": api.ErrDivide, "-1/0": api.ErrDivide, "-0/0": api.ErrDivide, long[1:] + "/0": api.ErrDivide,
	} {
		a, e := rational.Parse(s)
		expectZero(t, "Parse of "+s[:min(len(s), 12)], a, e, want)
	}
}

// P2.1: the zero value stands for 0 in every function.
func TestZeroValue(t *testing.T) {
	var zero rational.Rat
	half := parse(t, "1/2")
	expect(t, "zero", zero, "0")
	if nat.Text(rational.Num(zero)) != "0" || nat.Text(rational.Den(zero)) != "1" {
		t.Error("parts of the zero value")
	}
	for _, other := range []rational.Rat{zero, rational.Int(0), parse(t, "-0/3"), rational.Neg(zero)} {
		if rational.Cmp(zero, other) != 0 || rational.Cmp(other, zero) != 0 {
			t.Error("the zero value is not equal to 0")
		}
	}
	if rational.Cmp(zero, half) != -1 || rational.Cmp(half, zero) != 1 || rational.Cmp(zero, rational.Neg(half)) != 1 || rational.Cmp(rational.Neg(half), zero) != -1 {
		t.Error("Cmp with the zero value")
	}
	expect(t, "-0", rational.Neg(zero), "0")
	expect(t, "0+0", rational.Add(zero, zero), "0")
	expect(t, "0+1/2", rational.Add(zero, half), "1/2")
	expect(t, "1/2+0", rational.Add(half, zero), "1/2")
	expect(t, "0-1/2", rational.Sub(zero, half), "-1/2")
	expect(t, "1/2-0", rational.Sub(half, zero), "1/2")
	expect(t, "0*1/2", rational.Mul(zero, half), "0")
	expect(t, "1/2*0", rational.Mul(half, zero), "0")
	expect(t, "0*-1/2", rational.Mul(zero, rational.Neg(half)), "0")
	expect(t, "floor", rational.Floor(zero), "0")
	expect(t, "ceil", rational.Ceil(zero), "0")
	expect(t, "sum", rational.Sum([]rational.Rat{zero, zero, half, zero}), "1/2")
	quotient, e := rational.Div(zero, rational.Neg(half))
	expectZero(t, "0/(-1/2)", quotient, e, api.OK)
}

// P2.1: Div by every 0.
func TestDivByZero(t *testing.T) {
	for _, zero := range []rational.Rat{{}, rational.Int(0), parse(t, "-0/5"), rational.Sub(parse(t, "2/3"), parse(t, "2/3"))} {
		for _, a := range []rational.Rat{{}, rational.Int(2), parse(t, "-1/3")} {
			quotient, e := rational.Div(a, zero)
			expectZero(t, "division by 0", quotient, e, api.ErrDivide)
		}
	}
}

// P2.1: the examples of the document.
func TestExamples(t *testing.T) {
	third, _ := rational.Of(2, 6)
	expect(t, "2/6 - 1/2", rational.Sub(third, parse(t, "1/2")), "-1/6")
	expect(t, "Floor(-7/2)", rational.Floor(parse(t, "-7/2")), "-4")
	expect(t, "Ceil(-7/2)", rational.Ceil(parse(t, "-7/2")), "-3")
	expect(t, "-6/4", parse(t, "-6/4"), "-3/2")
	expect(t, "-0", parse(t, "-0"), "0")
	_, e := rational.Parse("1/0")
	if e != api.ErrDivide {
		t.Errorf("1/0: error %d", e)
	}
}

// P2.1: all functions of one and of two numbers, against another implementation.
func TestAgainstBig(t *testing.T) {
	bigs, numbers := samples(), sampleNumbers(t)
	for i, a := range bigs {
		x := numbers[i]
		expect(t, "Parse", x, bigText(a))
		if nat.Text(rational.Num(x)) != new(big.Int).Abs(a.Num()).String() || nat.Text(rational.Den(x)) != a.Denom().String() {
			t.Errorf("parts of %s", bigText(a))
		}
		expect(t, "Neg", rational.Neg(x), bigText(new(big.Rat).Neg(a)))
		for j, b := range bigs {
			y := numbers[j]
			if rational.Cmp(x, y) != a.Cmp(b) {
				t.Errorf("Cmp(%s, %s) is %d", bigText(a), bigText(b), rational.Cmp(x, y))
			}
			expect(t, "Add", rational.Add(x, y), bigText(new(big.Rat).Add(a, b)))
			expect(t, "Sub", rational.Sub(x, y), bigText(new(big.Rat).Sub(a, b)))
			expect(t, "Mul", rational.Mul(x, y), bigText(new(big.Rat).Mul(a, b)))
			quotient, e := rational.Div(x, y)
			if b.Sign() == 0 {
				expectZero(t, "Div", quotient, e, api.ErrDivide)
				continue
			}
			expect(t, "Div", quotient, bigText(new(big.Rat).Quo(a, b)))
			if e != api.OK {
				t.Errorf("%s / %s: error %d", bigText(a), bigText(b), e)
			}
		}
	}
}

// P2.1: all operations on all small fractions, in which every way to cancel occurs.
func TestSmallFractions(t *testing.T) {
	for n := -12; n <= 12; n++ {
		for d := 1; d <= 12; d++ {
			for m := -12; m <= 12; m += 3 {
				for k := 1; k <= 12; k++ {
					x, _ := rational.Of(n, d)
					y, _ := rational.Of(m, k)
					a, b := big.NewRat(int64(n), int64(d)), big.NewRat(int64(m), int64(k))
					expect(t, "Add", rational.Add(x, y), bigText(new(big.Rat).Add(a, b)))
					expect(t, "Sub", rational.Sub(x, y), bigText(new(big.Rat).Sub(a, b)))
					expect(t, "Mul", rational.Mul(x, y), bigText(new(big.Rat).Mul(a, b)))
					if rational.Cmp(x, y) != a.Cmp(b) {
						t.Errorf("Cmp(%s, %s)", bigText(a), bigText(b))
					}
				}
			}
		}
	}
}

// P2.1: Sum of lists of all lengths, which stay as they are.
func TestSum(t *testing.T) {
	expect(t, "Sum(nil)", rational.Sum(nil), "0")
	expect(t, "Sum of an empty list", rational.Sum([]rational.Rat{}), "0")
	bigs, numbers := samples(), sampleNumbers(t)
	want := new(big.Rat)
	for i := range numbers {
		want.Add(want, bigs[i])
		list := slices.Clone(numbers[:i+1])
		expect(t, "Sum", rational.Sum(list), bigText(want))
		for j, a := range list {
			expect(t, "summand", a, bigText(bigs[j]))
		}
	}
	var harmonic []rational.Rat
	want = new(big.Rat)
	for n := 1; n <= 300; n++ {
		a, _ := rational.Of(1, n)
		harmonic = append(harmonic, a)
		want.Add(want, big.NewRat(1, int64(n)))
	}
	expect(t, "harmonic sum", rational.Sum(harmonic), bigText(want))
}

// P2.1: the numbers are immutable, whatever is computed with them.
func TestImmutable(t *testing.T) {
	numbers := sampleNumbers(t)
	for i, a := range numbers {
		for _, b := range numbers {
			rational.Add(a, b)
			rational.Sub(a, b)
			rational.Mul(a, b)
			rational.Div(a, b)
			rational.Sum([]rational.Rat{a, b, a})
			rational.Floor(a)
			rational.Ceil(a)
			rational.Neg(a)
		}
		expect(t, "number after other calls", a, bigText(samples()[i]))
	}
}

// equal reports whether two numbers are equal, and checks that equal numbers have equal texts, and other ones others (P2.3).
func equal(t *testing.T, a, b rational.Rat) bool {
	t.Helper()
	same := rational.Cmp(a, b) == 0
	if same != (rational.Text(a) == rational.Text(b)) {
		t.Errorf("%s and %s: Cmp is %d", rational.Text(a), rational.Text(b), rational.Cmp(a, b))
	}
	return same
}

// P2.2: the laws of a field.
func TestField(t *testing.T) {
	zero, one := rational.Int(0), rational.Int(1)
	numbers := sampleNumbers(t)
	for _, a := range numbers {
		if !equal(t, rational.Add(a, zero), a) || !equal(t, rational.Mul(a, one), a) || !equal(t, rational.Add(a, rational.Neg(a)), zero) || !equal(t, rational.Neg(rational.Neg(a)), a) {
			t.Errorf("neutral or inverse elements: %s", rational.Text(a))
		}
		for _, b := range numbers {
			if !equal(t, rational.Add(a, b), rational.Add(b, a)) || !equal(t, rational.Mul(a, b), rational.Mul(b, a)) {
				t.Errorf("commutativity: %s, %s", rational.Text(a), rational.Text(b))
			}
			if !equal(t, rational.Sub(a, b), rational.Add(a, rational.Neg(b))) || !equal(t, rational.Add(rational.Sub(a, b), b), a) {
				t.Errorf("difference: %s, %s", rational.Text(a), rational.Text(b))
			}
			if q, e := rational.Div(a, b); e == api.OK && !equal(t, rational.Mul(q, b), a) {
				t.Errorf("quotient: %s, %s", rational.Text(a), rational.Text(b))
			}
			for _, c := range numbers {
				checkThree(t, a, b, c)
			}
		}
	}
}

// checkThree checks the laws of three numbers.
func checkThree(t *testing.T, a, b, c rational.Rat) {
	t.Helper()
	if !equal(t, rational.Add(rational.Add(a, b), c), rational.Add(a, rational.Add(b, c))) || !equal(t, rational.Mul(rational.Mul(a, b), c), rational.Mul(a, rational.Mul(b, c))) {
		t.Errorf("associativity: %s, %s, %s", rational.Text(a), rational.Text(b), rational.Text(c))
	}
	if !equal(t, rational.Mul(a, rational.Add(b, c)), rational.Add(rational.Mul(a, b), rational.Mul(a, c))) {
		t.Errorf("distributivity: %s, %s, %s", rational.Text(a), rational.Text(b), rational.Text(c))
	}
}

// P2.2: the order is total, and sums and positive factors keep it.
func TestOrder(t *testing.T) {
	numbers := sampleNumbers(t)
	for _, a := range numbers {
		if rational.Cmp(a, a) != 0 || rational.Sign(a) != rational.Cmp(a, rational.Rat{}) {
			t.Errorf("order of %s with itself and with 0", rational.Text(a))
		}
		for _, b := range numbers {
			order := rational.Cmp(a, b)
			if order != -rational.Cmp(b, a) || order != rational.Sign(rational.Sub(a, b)) {
				t.Errorf("order of %s and %s", rational.Text(a), rational.Text(b))
			}
			for _, c := range numbers {
				if order <= 0 && rational.Cmp(b, c) <= 0 && rational.Cmp(a, c) > 0 {
					t.Errorf("order is not transitive: %s, %s, %s", rational.Text(a), rational.Text(b), rational.Text(c))
				}
				if rational.Cmp(rational.Add(a, c), rational.Add(b, c)) != order || rational.Cmp(rational.Mul(a, c), rational.Mul(b, c)) != order*rational.Sign(c) {
					t.Errorf("order is not kept: %s, %s, %s", rational.Text(a), rational.Text(b), rational.Text(c))
				}
			}
		}
	}
}

// P2.3: Parse of Text, up to 1000 digits of both parts; beyond that, there is a text that is not parsed.
func TestTextParse(t *testing.T) {
	long := strings.Repeat("7", 1000)
	below := strings.Repeat("7", 999) + "6"
	for _, s := range []string{"0", "-1", "22/7", "-22/7", long, "-" + long, "1/" + long, "-" + below + "/" + long} {
		a := parse(t, s)
		expect(t, "Text", a, s)
		if !equal(t, parse(t, rational.Text(a)), a) {
			t.Errorf("Parse(Text(%.20s)) is another number", s)
		}
	}
	above := rational.Mul(parse(t, long), rational.Int(10))
	expect(t, "1001 digits", above, long+"0")
	a, e := rational.Parse(rational.Text(above))
	expectZero(t, "Parse of 1001 digits", a, e, api.ErrLimit)
}

// P2.3: equal numbers have equal texts, whatever they were made of.
func TestEqualTexts(t *testing.T) {
	for n := -20; n <= 20; n++ {
		for d := 1; d <= 20; d++ {
			want, _ := rational.Of(n, d)
			for k := 1; k <= 7; k++ {
				extended, _ := rational.Of(n*k, d*k)
				turned, _ := rational.Of(-n*k, -d*k)
				made, _ := rational.Make(n < 0, nat.Of(uint64(max(n, -n)*k)), nat.Of(uint64(d*k)))
				quotient, _ := rational.Div(rational.Int(n*k), rational.Int(d*k))
				for _, a := range []rational.Rat{extended, turned, made, quotient} {
					expect(t, "equal number", a, rational.Text(want))
				}
			}
		}
	}
}

// P2.4: Floor and Ceil of integers and of numbers between them.
func TestFloorCeil(t *testing.T) {
	for s, want := range map[string][2]string{
		"0": {"0", "0"}, "5": {"5", "5"}, "-5": {"-5", "-5"}, "7/2": {"3", "4"}, "-7/2": {"-4", "-3"}, "1/9": {"0", "1"}, "-1/9": {"-1", "0"}, "8/9": {"0", "1"}, "-8/9": {"-1", "0"},
		"18446744073709551617/2":  {"9223372036854775808", "9223372036854775809"},
		"-36893488147419103231/2": {"-18446744073709551616", "-18446744073709551615"},
		"-18446744073709551616":   {"-18446744073709551616", "-18446744073709551616"},
	} {
		a := parse(t, s)
		expect(t, "Floor of "+s, rational.Floor(a), want[0])
		expect(t, "Ceil of "+s, rational.Ceil(a), want[1])
	}
}

// P2.4: Floor(a) is an integer, at most a and greater than a - 1, and Ceil(a) is -Floor(-a).
func TestFloorProperty(t *testing.T) {
	one := rational.Int(1)
	for _, a := range sampleNumbers(t) {
		floor := rational.Floor(a)
		if nat.Text(rational.Den(floor)) != "1" || rational.Cmp(floor, a) > 0 || rational.Cmp(floor, rational.Sub(a, one)) <= 0 {
			t.Errorf("Floor(%s) is %s", rational.Text(a), rational.Text(floor))
		}
		if !equal(t, rational.Ceil(a), rational.Neg(rational.Floor(rational.Neg(a)))) {
			t.Errorf("Ceil(%s) is %s", rational.Text(a), rational.Text(rational.Ceil(a)))
		}
	}
}

func BenchmarkAdd(b *testing.B) {
	x, _ := rational.Of(355, 113)
	y, _ := rational.Of(-22, 7)
	for b.Loop() {
		rational.Add(x, y)
	}
}

func BenchmarkAddIntegers(b *testing.B) {
	x, y := rational.Int(1234), rational.Int(-777)
	for b.Loop() {
		rational.Add(x, y)
	}
}

func BenchmarkMul(b *testing.B) {
	x, _ := rational.Of(355, 113)
	y, _ := rational.Of(-22, 7)
	for b.Loop() {
		rational.Mul(x, y)
	}
}
