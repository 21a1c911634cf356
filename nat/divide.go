package nat

import (
	"math"
	"math/bits"
	"slices"

	"waypoint/api"
)

// DivMod returns the quotient and the remainder.
func DivMod(a, b Nat) (Nat, Nat, api.Errno) {
	if IsZero(b) {
		return Nat{}, Nat{}, api.ErrDivide
	}
	if Cmp(a, b) < 0 {
		return Nat{}, a, api.OK
	}
	if x, ok := Uint64(a); ok {
		y, _ := Uint64(b)
		return Of(x / y), Of(x % y), api.OK
	}
	if len(b.digits) == 1 {
		quotient := slices.Clone(a.digits)
		rest := divideByDigit(quotient, b.digits[0])
		return fromDigits(quotient), Of(uint64(rest)), api.OK
	}
	quotient, rest := divideLong(a.digits, b.digits)
	return fromDigits(quotient), fromDigits(rest), api.OK
}

// GCD returns the greatest common divisor.
func GCD(a, b Nat) Nat {
	for len(b.digits) > 2 {
		_, rest, _ := DivMod(a, b)
		a, b = b, rest
	}
	if IsZero(b) {
		return a
	}
	// The remainder is less than b, so that the rest of the way needs no long division.
	_, rest, _ := DivMod(a, b)
	x, _ := Uint64(b)
	y, _ := Uint64(rest)
	for y != 0 {
		x, y = y, x%y
	}
	return Of(x)
}

// divideByDigit replaces digits by their quotient and returns the remainder. The divisor is not 0.
func divideByDigit(digits []uint32, divisor uint32) uint32 {
	var rest uint32
	for i, d := range slices.Backward(digits) {
		digits[i], rest = bits.Div32(rest, d, divisor)
	}
	return rest
}

// divideLong returns the digits of the quotient and of the remainder, by Knuth's algorithm D. The divisor b has at least two digits, and a at least as many.
func divideLong(a, b []uint32) ([]uint32, []uint32) {
	n := len(b)
	// The guesses of guessDigit are good only if the highest bit of the divisor is set.
	shift := bits.LeadingZeros32(b[n-1])
	divisor := shiftLeft(b, shift)[:n:n]
	rest := shiftLeft(a, shift)
	quotient := make([]uint32, len(a)-n+1)
	for i := range slices.Backward(quotient) {
		quotient[i] = divideStep(rest[i:i+n+1:i+n+1], divisor)
	}
	shiftRight(rest[:n:n], shift)
	return quotient, rest[:n:n]
}

// shiftLeft returns digits times 2^shift, with one digit more. The shift is less than digitBits; if it is 0, Go's shift by digitBits gives the 0 that is needed.
func shiftLeft(digits []uint32, shift int) []uint32 {
	shifted := make([]uint32, len(digits)+1)
	for i, d := range digits {
		shifted[i] |= d << shift
		shifted[i+1] = d >> (digitBits - shift)
	}
	return shifted
}

// shiftRight replaces digits by their quotient by 2^shift, as shiftLeft does with the product.
func shiftRight(digits []uint32, shift int) {
	var above uint32
	for i, d := range slices.Backward(digits) {
		digits[i] = d>>shift | above<<(digitBits-shift)
		above = d
	}
}

// divideStep subtracts the divisor from part as often as it can, and returns how often. Part has one digit more than the divisor, and without its least digit it is less than the divisor.
func divideStep(part, divisor []uint32) uint32 {
	n := len(divisor)
	guess := guessDigit(part, divisor)
	var borrow uint32
	part[n], borrow = bits.Sub32(part[n], subtractProduct(part[:n:n], divisor, guess), 0)
	if borrow != 0 {
		// The guess was too great by 1; the carry of the sum undoes the borrow.
		addTo(part, divisor)
		guess--
	}
	return guess
}

// guessDigit returns the digit of a quotient, or a digit that is too great by 1, from the three highest digits of part and the two highest ones of the divisor.
func guessDigit(part, divisor []uint32) uint32 {
	n := len(divisor)
	highest, second := divisor[n-1], divisor[n-2]
	if part[n] >= highest {
		// The digit is at least 2^32-2 here, because the highest digit of the divisor is at least 2^31.
		return math.MaxUint32
	}
	guess, rest := bits.Div32(part[n], part[n-1], highest)
	for {
		high, low := bits.Mul32(guess, second)
		if high < rest || high == rest && low <= part[n-2] {
			return guess
		}
		var carry uint32
		guess--
		rest, carry = bits.Add32(rest, highest, 0)
		if carry != 0 {
			return guess
		}
	}
}
