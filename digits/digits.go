// Package digits reads and writes by digits what stands in texts: for the layers that have texts.
package digits

import "strings"

// The digits of the greatest base, and what a rune stands for that is none of them.
const (
	all  = "0123456789abcdef"
	none = len(all)
)

// Number reads one that is no greater than top, with any zeros ahead.
func Number(s string, base, top int) (int, bool) {
	n := 0
	for _, r := range s {
		d := digit(r)
		if d >= base || n*base+d > top {
			return 0, false
		}
		n = n*base + d
	}
	return n, s != ""
}

// Bytes reads some, of two digits of base 16 each.
func Bytes(s string) ([]byte, bool) {
	if len(s)%2 != 0 {
		return nil, false
	}
	b := make([]byte, len(s)/2)
	for i, r := range s {
		d := digit(r)
		if d == none {
			return nil, false
		}
		b[i/2] = b[i/2]<<4 | byte(d)
	}
	return b, true
}

// Text writes bytes, as two digits of base 16 each.
func Text(b []byte) string {
	var out strings.Builder
	for _, n := range b {
		out.WriteByte(all[n>>4])
		out.WriteByte(all[n&15])
	}
	return out.String()
}

// digit is what a rune stands for.
func digit(r rune) int {
	switch {
	case '0' <= r && r <= '9':
		return int(r - '0')
	case 'a' <= r && r <= 'f':
		return int(r-'a') + 10
	}
	return none
}
