package prefix_test

import (
	"math"
	"strconv"
	"strings"
	"testing"

	"waypoint/api"
	"waypoint/prefix"
)

// expectSyntax checks that a string is no text, which gives no prefix.
func expectSyntax(t *testing.T, s string) {
	t.Helper()
	if p, e := prefix.Parse(s); e != api.ErrSyntax || p != (api.Prefix{}) {
		t.Errorf("Parse(%.40q): %v, error %d, want ErrSyntax", s, p, e)
	}
}

// P4.1: texts and their prefixes.
func TestText(t *testing.T) {
	for s, want := range map[string]api.Prefix{
		"0.0.0.0/0":          {},
		"0.0.0.0/32":         {Len: 32},
		"128.0.0.0/1":        {Addr: 1 << 31, Len: 1},
		"10.0.0.0/8":         {Addr: ip(10, 0, 0, 0), Len: 8},
		"10.0.0.0/7":         {Addr: ip(10, 0, 0, 0), Len: 7},
		"1.2.3.4/32":         {Addr: ip(1, 2, 3, 4), Len: 32},
		"192.168.100.0/22":   {Addr: ip(192, 168, 100, 0), Len: 22},
		"0.0.0.1/32":         {Addr: 1, Len: 32},
		"255.255.255.254/31": {Addr: math.MaxUint32 - 1, Len: 31},
		"255.255.255.255/32": {Addr: math.MaxUint32, Len: 32},
	} {
		if got := prefix.Text(want); got != s {
			t.Errorf("Text(%v): %q, want %q", want, got, s)
		}
		if got := get(t, s); got != want {
			t.Errorf("Parse(%q): %v, want %v", s, got, want)
		}
	}
}

// P4.2: every prefix comes back from its text, and no two of them have the same one.
func TestParseText(t *testing.T) {
	texts := make(map[string]api.Prefix)
	for _, p := range samples() {
		s := prefix.Text(p)
		if got, e := prefix.Parse(s); e != api.OK || got != p {
			t.Errorf("Parse(Text(%v)): %v, error %d", p, got, e)
		}
		if q, ok := texts[s]; ok && q != p {
			t.Errorf("%v and %v have the text %q", p, q, s)
		}
		texts[s] = p
	}
}

// P4.1: numbers outside of a byte or of the lengths.
func TestParseNumbers(t *testing.T) {
	for _, n := range []string{"256", "257", "300", "999", "1000", "-1", "-0", "+1", "00", "01", "001", "1e1", "0x1", "1_0", " 1", "1 ", "", "a", "\u0661", "4294967296", "18446744073709551616", "18446744073709551617", strings.Repeat("9", 1000), strings.Repeat("0", 1000)} {
		for _, s := range []string{n + ".0.0.0/8", "0." + n + ".0.0/16", "0.0." + n + ".0/24", "0.0.0." + n + "/32", "0.0.0.0/" + n} {
			expectSyntax(t, s)
		}
	}
	for n := 33; n <= 255; n++ {
		expectSyntax(t, "0.0.0.0/"+strconv.Itoa(n))
	}
}

// P4.1: the wrong number of parts, or other things between them.
func TestParseForm(t *testing.T) {
	for _, s := range []string{
		"", "/", ".", "...", ".../", "/8", "0/0", "10/8", "10.0.0/8", "10.0.0.0", "10.0.0.0/", "10.0.0.0.0/8", "10.0.0.0./8", ".10.0.0.0/8",
		"10..0.0/8", "10.0.0.0//8", "10.0.0.0/8/", "10.0.0.0/8/8", "10.0.0.0/8.0", "10.0/0.0", "10,0,0,0/8", "10.0.0.0\\8", "10.0.0.0 /8", "10.0.0.0/ 8",
		" 10.0.0.0/8", "10.0.0.0/8 ", "10.0.0.0/8\n", "10.0.0.0/8\x00", "\xff10.0.0.0/8", "\ufeff10.0.0.0/8", "0:0:0:0/0", "::/0", "8", "n1",
		strings.Repeat("0.", 100000) + "0/0", strings.Repeat("/", 100000), "0.0.0.0/" + strings.Repeat("1", 100000),
	} {
		expectSyntax(t, s)
	}
}

// P4.1: bits behind the length that are set.
func TestParseBits(t *testing.T) {
	for _, p := range invalid() {
		if p.Len < 0 || p.Len > 32 {
			continue
		}
		whole := prefix.Text(api.Prefix{Addr: p.Addr, Len: 32})
		expectSyntax(t, strings.TrimSuffix(whole, "32")+strconv.Itoa(p.Len))
	}
	expectSyntax(t, "10.0.0.1/8")
	expectSyntax(t, "10.0.0.0/6")
	expectSyntax(t, "128.0.0.0/0")
}

// P4.1, P4.2: whatever byte of a text is left out, doubled or replaced, only texts are parsed.
func TestParseChanged(t *testing.T) {
	for _, s := range []string{"0.0.0.0/0", "10.1.2.0/24", "192.168.255.240/28", "255.255.255.255/32"} {
		for i := range len(s) {
			for _, c := range "\x00 +-./0123456789:aAxe_" {
				expectText(t, s[:i]+string(c)+s[i:])
				expectText(t, s[:i]+string(c)+s[i+1:])
			}
			expectText(t, s[:i]+s[i+1:])
			expectText(t, s[:i])
			expectText(t, s[i:])
		}
	}
}

// expectText checks that a string is parsed if and only if it is the text of the result.
func expectText(t *testing.T, s string) {
	t.Helper()
	p, e := prefix.Parse(s)
	if e == api.OK && prefix.Text(p) != s {
		t.Errorf("Parse(%q): %v, whose text is %q", s, p, prefix.Text(p))
	}
	if e != api.OK {
		expectSyntax(t, s)
	}
}
