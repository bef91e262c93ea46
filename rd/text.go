package rd

import (
	"strconv"
	"strings"

	"vinery/addr"
	"vinery/api"
	"vinery/cursor"
	"vinery/digits"
)

const (
	maxNum   = 1<<32 - 1 // the greatest number that any HIGH or LOW can be
	addrSize = 4         // the bytes of an address of IPv4
	mark     = "?"       // what stands in the kind's place, where that is not known
	between  = ":"
)

// Text is one as a text.
func Text(d api.RD) string {
	kind, high, low, known := Parts(d)
	if !known {
		return mark + between + digits.Text(d[:])
	}
	return strings.Join([]string{strconv.Itoa(kind), textHigh(kind, high), strconv.Itoa(low)}, between)
}

// textHigh writes HIGH.
func textHigh(kind, high int) string {
	if kind != api.RDAddr {
		return strconv.Itoa(high)
	}
	b, _ := cursor.Put(nil, high, addrSize)
	a, _ := addr.Of(b)
	return addr.Text(a)
}

// Parse reads one. What was read is written again: just the same text will do, as one has one text only.
func Parse(s string) (api.RD, api.Errno) {
	d := read(s)
	if Text(d) != s {
		return api.RD{}, api.ErrForm
	}
	return d, api.OK
}

// read is the one whose text this is, if it is a text of one: what can't be read counts as 0.
func read(s string) api.RD {
	head, tail, _ := strings.Cut(s, between)
	if head == mark {
		b, _ := digits.Bytes(tail)
		return ofBytes(b)
	}
	middle, end, _ := strings.Cut(tail, between)
	kind, _ := digits.Number(head, 10, api.RDLong)
	low, _ := digits.Number(end, 10, maxNum)
	d, _ := Make(kind, readHigh(kind, middle), low)
	return d
}

// readHigh reads HIGH.
func readHigh(kind int, s string) int {
	if kind != api.RDAddr {
		n, _ := digits.Number(s, 10, maxNum)
		return n
	}
	a, _ := addr.Parse(s)
	return cursor.Open(addr.Bytes(a)).Num(addrSize)
}
