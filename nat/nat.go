// Package nat implements layer 1: natural numbers. See shared/doc/01-nat.md.
package nat

import (
	"cmp"
	"math/bits"
	"slices"

	"waypoint/api"
)

// digitBits is the number of bits of a digit.
const digitBits = 32

// Nat is a natural number. Several numbers may share one array of digits, so digits are never changed once they belong to a number.
type Nat struct {
	// digits are the digits to the base 2^32, the least one first; the last one is not 0, so that equal numbers have equal digits.
	digits []uint32
}

// Of returns a number.
func Of(n uint64) Nat {
	return fromDigits([]uint32{uint32(n), uint32(n >> digitBits)})
}

// IsZero reports whether a number is 0.
func IsZero(a Nat) bool {
	return len(a.digits) == 0
}

// Bits returns the number of binary digits.
func Bits(a Nat) int {
	if IsZero(a) {
		return 0
	}
	last := len(a.digits) - 1
	return last*digitBits + bits.Len32(a.digits[last])
}

// Uint64 returns a number that is less than 2^64.
func Uint64(a Nat) (uint64, bool) {
	if len(a.digits) > 2 {
		return 0, false
	}
	var n uint64
	for i, d := range a.digits {
		n |= uint64(d) << (i * digitBits)
	}
	return n, true
}

// Cmp compares two numbers.
func Cmp(a, b Nat) int {
	if len(a.digits) != len(b.digits) {
		return cmp.Compare(len(a.digits), len(b.digits))
	}
	for i, d := range slices.Backward(a.digits) {
		if d != b.digits[i] {
			return cmp.Compare(d, b.digits[i])
		}
	}
	return 0
}

// Add returns the sum.
func Add(a, b Nat) Nat {
	if len(a.digits) < len(b.digits) {
		a, b = b, a
	}
	sum := make([]uint32, len(a.digits)+1)
	copy(sum, a.digits)
	addTo(sum, b.digits)
	return fromDigits(sum)
}

// Sub returns the difference.
func Sub(a, b Nat) (Nat, api.Errno) {
	if Cmp(a, b) < 0 {
		return Nat{}, api.ErrRange
	}
	difference := slices.Clone(a.digits)
	subtractFrom(difference, b.digits)
	return fromDigits(difference), api.OK
}

// Mul returns the product.
func Mul(a, b Nat) Nat {
	n := len(b.digits)
	product := make([]uint32, len(a.digits)+n)
	for i, d := range a.digits {
		// No earlier round has reached the digit of the carry, so it can be set instead of added to.
		product[i+n] = addProduct(product[i:i+n:i+n], b.digits, d)
	}
	return fromDigits(product)
}

// fromDigits returns the number with these digits, which it takes over. The capacity is cut with the leading zeros, so that no append can reach what lies behind the number.
func fromDigits(digits []uint32) Nat {
	n := len(digits)
	for n > 0 && digits[n-1] == 0 {
		n--
	}
	return Nat{digits[:n:n]}
}

// addTo adds digits to sum, which has at least as many, and returns the carry.
func addTo(sum, digits []uint32) uint32 {
	var carry uint32
	for i, d := range digits {
		sum[i], carry = bits.Add32(sum[i], d, carry)
	}
	for i := len(digits); i < len(sum) && carry != 0; i++ {
		sum[i], carry = bits.Add32(sum[i], 0, carry)
	}
	return carry
}

// subtractFrom subtracts digits from difference, which has at least as many, and returns the borrow.
func subtractFrom(difference, digits []uint32) uint32 {
	var borrow uint32
	for i, d := range digits {
		difference[i], borrow = bits.Sub32(difference[i], d, borrow)
	}
	for i := len(digits); i < len(difference) && borrow != 0; i++ {
		difference[i], borrow = bits.Sub32(difference[i], 0, borrow)
	}
	return borrow
}

// addProduct adds the product of digits and a factor to sum, which has as many digits, and returns the carry.
func addProduct(sum, digits []uint32, factor uint32) uint32 {
	var carry uint32
	for i, d := range digits {
		// The high digit cannot overflow: even the greatest digits make (2^32-1)^2 + 2(2^32-1) = 2^64-1.
		high, low := bits.Mul32(d, factor)
		low, c := bits.Add32(low, carry, 0)
		high += c
		sum[i], c = bits.Add32(sum[i], low, 0)
		carry = high + c
	}
	return carry
}

// subtractProduct subtracts the product of digits and a factor from difference, which has as many digits, and returns the borrow.
func subtractProduct(difference, digits []uint32, factor uint32) uint32 {
	var borrow uint32
	for i, d := range digits {
		high, low := bits.Mul32(d, factor)
		low, c := bits.Add32(low, borrow, 0)
		high += c
		difference[i], c = bits.Sub32(difference[i], low, 0)
		borrow = high + c
	}
	return borrow
}
