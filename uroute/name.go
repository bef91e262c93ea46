package uroute

import (
	"cmp"
	"strconv"
	"strings"

	"vinery/addr"
	"vinery/api"
	"vinery/rd"
)

// name is what routes are told apart by: a label is not in it.
type name struct {
	rd     api.RD
	prefix api.Prefix
}

func nameOf(u api.Uroute) name { return name{u.RD, u.Prefix} }

// Same tells whether two have one name.
func Same(a, b api.Uroute) bool { return nameOf(a) == nameOf(b) }

// Compare orders two by their names.
func Compare(a, b api.Uroute) int {
	return cmp.Or(
		rd.Compare(a.RD, b.RD),
		addr.Compare(a.Prefix.Addr, b.Prefix.Addr),
		cmp.Compare(a.Prefix.Bits, b.Prefix.Bits),
	)
}

// Text is one as a text.
func Text(u api.Uroute) string {
	if !Right(u) {
		return ""
	}
	return strings.Join([]string{rd.Text(u.RD), addr.PrefixText(u.Prefix), strconv.Itoa(u.Label)}, " ")
}
