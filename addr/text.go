package addr

import (
	"slices"
	"strconv"
	"strings"

	"vinery/api"
	"vinery/cursor"
	"vinery/digits"
)

const (
	pairs = sizeSix / 2 // the numbers of an IPv6 address, of two bytes each
	gap   = "::"        // what is written for a row of numbers 0
)

// Text is one as a text.
func Text(a api.Addr) string {
	switch {
	case !Right(a):
		return ""
	case a.Size == sizeFour:
		return textFour(a)
	case a.Size == sizeSix:
		return textSix(a)
	}
	return ""
}

func textFour(a api.Addr) string {
	var row [sizeFour]string
	for i := range row {
		row[i] = strconv.Itoa(int(a.B[i]))
	}
	return strings.Join(row[:], ".")
}

func textSix(a api.Addr) string {
	var row [pairs]int
	r := cursor.Open(a.B[:])
	for i := range row {
		row[i] = r.Num(2)
	}
	from, to := zeros(row)
	if to-from < 2 {
		return join(row[:])
	}
	return join(row[:from]) + gap + join(row[to:])
}

// zeros is the longest row of numbers 0, the first of alike ones: its beginning and its end.
func zeros(row [pairs]int) (int, int) {
	from, to, begin := 0, 0, 0
	for i, n := range row {
		if n != 0 {
			begin = i + 1
		} else if i+1-begin > to-from {
			from, to = begin, i+1
		}
	}
	return from, to
}

// join writes numbers in base 16, with colons between.
func join(row []int) string {
	var words []string
	for _, n := range row {
		words = append(words, strconv.FormatInt(int64(n), 16))
	}
	return strings.Join(words, ":")
}

// Parse reads one. What was read is written again: just the same text will do, as an address has one only.
func Parse(s string) (api.Addr, api.Errno) {
	a, ok := read(s)
	if !ok || Text(a) != s {
		return api.Addr{}, api.ErrForm
	}
	return a, api.OK
}

// read reads an address's text, and some that are like one.
func read(s string) (api.Addr, bool) {
	switch {
	case s == "":
		return api.Addr{}, true
	case strings.Contains(s, ":"):
		return readSix(s)
	}
	return readFour(s)
}

func readFour(s string) (api.Addr, bool) {
	row, ok := numbers(s, ".", 10, 1<<8-1)
	if !ok || len(row) != sizeFour {
		return api.Addr{}, false
	}
	return ofNumbers(row, 1)
}

func readSix(s string) (api.Addr, bool) {
	head, tail, cut := strings.Cut(s, gap)
	front, ok := numbers(head, ":", 16, 1<<16-1)
	if !ok {
		return api.Addr{}, false
	}
	back, ok := numbers(tail, ":", 16, 1<<16-1)
	left := pairs - len(front) - len(back)
	if !ok || left < 0 || cut != (left > 0) {
		return api.Addr{}, false
	}
	return ofNumbers(slices.Concat(front, make([]int, left), back), 2)
}

// ofNumbers is the address that is made of numbers of so many bytes.
func ofNumbers(row []int, size int) (api.Addr, bool) {
	var b []byte
	for _, n := range row {
		b, _ = cursor.Put(b, n, size)
	}
	a, errno := Of(b)
	return a, errno == api.OK
}

// numbers reads the numbers of a text, none of an empty one: it gives up behind one more than an address has.
func numbers(s, between string, base, top int) ([]int, bool) {
	var row []int
	for more := s != ""; more && len(row) <= pairs; {
		var word string
		word, s, more = strings.Cut(s, between)
		n, ok := digits.Number(word, base, top)
		if !ok {
			return nil, false
		}
		row = append(row, n)
	}
	return row, true
}
