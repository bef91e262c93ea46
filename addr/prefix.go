package addr

import (
	"strconv"
	"strings"

	"vinery/api"
	"vinery/digits"
)

// maxBits is how many bits an address has at most.
const maxBits = 8 * sizeSix

// Cut is the prefix of an address's first bits.
func Cut(a api.Addr, bits int) (api.Prefix, api.Errno) {
	if !Right(a) || a.Size == 0 || bits < 0 || bits > 8*a.Size {
		return api.Prefix{}, api.ErrArg
	}
	for i := range a.B {
		a.B[i] &= mask(bits - 8*i)
	}
	return api.Prefix{Addr: a, Bits: bits}, api.OK
}

// mask has the first bits of a byte: all of them from 8 on, none below 1.
func mask(bits int) byte {
	switch {
	case bits >= 8:
		return 0xFF
	case bits <= 0:
		return 0
	}
	return 0xFF << (8 - bits)
}

// Has tells whether an address is among a prefix's. (What is cut is right: so is a prefix that is like it.)
func Has(p api.Prefix, a api.Addr) bool {
	q, errno := Cut(a, p.Bits)
	return errno == api.OK && q == p
}

// PrefixText is one as a text. (One that is not right hasn't even its own address.)
func PrefixText(p api.Prefix) string {
	if !Has(p, p.Addr) {
		return ""
	}
	return Text(p.Addr) + "/" + strconv.Itoa(p.Bits)
}

// ParsePrefix reads one, as Parse does: it is written again.
func ParsePrefix(s string) (api.Prefix, api.Errno) {
	head, tail, _ := strings.Cut(s, "/")
	a, errno := Parse(head)
	bits, ok := digits.Number(tail, 10, maxBits)
	p := api.Prefix{Addr: a, Bits: bits}
	if errno != api.OK || !ok || PrefixText(p) != s {
		return api.Prefix{}, api.ErrForm
	}
	return p, api.OK
}
