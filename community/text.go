package community

import (
	"strconv"
	"strings"

	"vinery/addr"
	"vinery/api"
	"vinery/digits"
	"vinery/rd"
)

// What texts begin with, and what stands between their parts.
const (
	wordTarget = "rt"
	wordImport = "import"
	wordSource = "source"
	wordOther  = "other"
	between    = ":"
)

// maxNum is the greatest number that a text has: what is too great for its place is refused when it is made.
const maxNum = 1<<32 - 1

// Text is one as a text.
func Text(e api.Ext) string {
	switch Kind(e) {
	case api.ExtTarget:
		return join(wordTarget, rd.Text(distinguisher(e)))
	case api.ExtImport:
		a, n, _ := Importer(e)
		return join(wordImport, addr.Text(a), strconv.Itoa(n))
	case api.ExtSource:
		as, _ := AS(e)
		return join(wordSource, strconv.Itoa(as))
	}
	return join(wordOther, digits.Text(e[:]))
}

// join writes a text's parts.
func join(parts ...string) string { return strings.Join(parts, between) }

// Parse reads one. What was read is written again: just the same text will do, as one has one text only.
func Parse(s string) (api.Ext, api.Errno) {
	e := read(s)
	if Text(e) != s {
		return api.Ext{}, api.ErrForm
	}
	return e, api.OK
}

// read is the one whose text this is, if it is a text of one: what can't be read counts as 0.
func read(s string) api.Ext {
	head, tail, _ := strings.Cut(s, between)
	switch head {
	case wordTarget:
		return readTarget(tail)
	case wordImport:
		return readImport(tail)
	case wordSource:
		as, _ := digits.Number(tail, 10, maxNum)
		e, _ := Source(as)
		return e
	}
	b, _ := digits.Bytes(tail)
	return ofBytes(b)
}

func readTarget(s string) api.Ext {
	d, _ := rd.Parse(s)
	kind, high, low, _ := rd.Parts(d)
	e, _ := Target(kind, high, low)
	return e
}

func readImport(s string) api.Ext {
	head, tail, _ := strings.Cut(s, between)
	a, _ := addr.Parse(head)
	n, _ := digits.Number(tail, 10, maxNum)
	e, _ := Import(a, n)
	return e
}
