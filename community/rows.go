package community

import (
	"slices"

	"vinery/api"
	"vinery/cursor"
)

// size is how many bytes one has.
const size = len(api.Ext{})

// Set are some, each once, in order.
func Set(l ...api.Ext) []api.Ext {
	row := slices.Clone(l)
	slices.SortFunc(row, order)
	return slices.Compact(row)
}

func order(a, b api.Ext) int { return cursor.Order(a[:], b[:]) }

// Meet tells whether two have a target in common. (Only those of one row are looked at, as what is like a target is one.)
func Meet(a, b []api.Ext) bool {
	row := Set(a...)
	for _, e := range b {
		if _, found := slices.BinarySearchFunc(row, e, order); found && Kind(e) == api.ExtTarget {
			return true
		}
	}
	return false
}

// Bytes are some in bytes.
func Bytes(l []api.Ext) []byte {
	b := make([]byte, 0, len(l)*size)
	for _, e := range l {
		b = append(b, e[:]...)
	}
	return b
}

// Read is the way back.
func Read(b []byte) ([]api.Ext, api.Errno) {
	l := make([]api.Ext, 0, len(b)/size)
	r := cursor.Open(b)
	for r.Left() > 0 {
		l = append(l, ofBytes(r.Take(size)))
	}
	if r.Bad() {
		return nil, api.ErrForm
	}
	return l, api.OK
}

// ofBytes is the one of these bytes: of none zero.
func ofBytes(b []byte) api.Ext {
	var e api.Ext
	copy(e[:], b)
	return e
}
