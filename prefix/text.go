package prefix

import (
	"strconv"
	"strings"

	"waypoint/api"
)

const (
	// addrBytes is the number of bytes of an address.
	addrBytes = 4
	// maxByte is the greatest value of a byte.
	maxByte = 255
)

// Text returns the text of a prefix.
func Text(p api.Prefix) string {
	if !Valid(p) {
		return ""
	}
	return addrText(p.Addr) + "/" + strconv.Itoa(p.Len)
}

// Parse returns the prefix with a text.
func Parse(s string) (api.Prefix, api.Errno) {
	addrPart, lenPart, _ := strings.Cut(s, "/")
	addr, addrOK := parseAddr(addrPart)
	length, lenOK := parseNumber(lenPart, addrBits)
	p := api.Prefix{Addr: addr, Len: length}
	if !addrOK || !lenOK || !Valid(p) {
		return api.Prefix{}, api.ErrSyntax
	}
	return p, api.OK
}

// addrText returns the bytes of an address in decimal, with dots between them.
func addrText(addr uint32) string {
	parts := make([]string, addrBytes)
	for i := range parts {
		shift := 8 * (addrBytes - 1 - i)
		parts[i] = strconv.Itoa(int(addr >> shift & maxByte))
	}
	return strings.Join(parts, ".")
}

// parseAddr returns the address whose bytes are written as s, or false if there is none.
func parseAddr(s string) (uint32, bool) {
	// If there are too many parts, the last one of these contains a dot, and is no number.
	parts := strings.SplitN(s, ".", addrBytes)
	if len(parts) != addrBytes {
		return 0, false
	}
	addr := uint32(0)
	for _, part := range parts {
		n, ok := parseNumber(part, maxByte)
		if !ok {
			return 0, false
		}
		addr = addr<<8 | uint32(n)
	}
	return addr, true
}

// parseNumber returns the number from 0 to the greatest one that is written as s in decimal, or false if there is none.
func parseNumber(s string, greatest int) (int, bool) {
	n, err := strconv.Atoi(s)
	if err != nil || n < 0 || n > greatest {
		return 0, false
	}
	// Atoi also takes signs and leading zeros, which the text of the number does not have.
	if strconv.Itoa(n) != s {
		return 0, false
	}
	return n, true
}
