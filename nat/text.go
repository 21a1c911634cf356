package nat

import (
	"math/bits"
	"slices"
	"strconv"
	"strings"

	"waypoint/api"
)

const (
	// maxText is the greatest length of a text that is parsed.
	maxText = 1000
	// partLen is the number of decimal digits that are converted at a time: as many as fit into one digit of a number.
	partLen = 9
	// partBase is 10 to the power of partLen.
	partBase = 1_000_000_000
)

// Parse returns the number with a text.
func Parse(s string) (Nat, api.Errno) {
	if !isText(s) {
		return Nat{}, api.ErrSyntax
	}
	if len(s) > maxText {
		return Nat{}, api.ErrLimit
	}
	// The first part takes the odd decimal digits, so that all others have the same power of ten.
	n := len(s) % partLen
	digits := appendPart(nil, s[:n])
	for ; n < len(s); n += partLen {
		digits = appendPart(digits, s[n:n+partLen])
	}
	return fromDigits(digits), api.OK
}

// isText reports whether s is the text of a number.
func isText(s string) bool {
	if s == "" || s[0] == '0' && len(s) > 1 {
		return false
	}
	for i := range len(s) {
		if s[i] < '0' || s[i] > '9' {
			return false
		}
	}
	return true
}

// appendPart returns the digits of the number whose text is that of digits, followed by the decimal digits of part. It changes digits in place.
func appendPart(digits []uint32, part string) []uint32 {
	var carry uint32
	for i := range len(part) {
		carry = carry*10 + uint32(part[i]-'0')
	}
	for i, d := range digits {
		high, low := bits.Mul32(d, partBase)
		var c uint32
		digits[i], c = bits.Add32(low, carry, 0)
		carry = high + c
	}
	if carry != 0 {
		digits = append(digits, carry)
	}
	return digits
}

// Text returns the text of a number.
func Text(a Nat) string {
	var parts []string
	rest := slices.Clone(a.digits)
	for len(rest) > 0 {
		part := strconv.Itoa(int(divideByDigit(rest, partBase)))
		rest = fromDigits(rest).digits
		if len(rest) > 0 {
			part = strings.Repeat("0", partLen-len(part)) + part
		}
		parts = append(parts, part)
	}
	if len(parts) == 0 {
		return "0"
	}
	slices.Reverse(parts)
	return strings.Join(parts, "")
}
