package attr

import (
	"vinery/api"
	"vinery/cursor"
	"vinery/rows"
)

// The greatest number of a byte: a value that has more bytes needs FlagLong.
const mostByte = 1<<8 - 1

// Split cuts attributes out of bytes.
func Split(b []byte) ([]api.Raw, api.Errno) {
	r := cursor.Open(b)
	var l []api.Raw
	for r.Left() > 0 {
		if len(l) == api.MaxAttrs {
			return nil, api.ErrLong
		}
		w := first(r)
		if r.Bad() {
			return nil, api.ErrEnd
		}
		l = append(l, w)
	}
	return l, api.OK
}

// first is the attribute at the front; where none is whole, the reader turns bad.
func first(r *cursor.Reader) api.Raw {
	flags, kind := r.Num(1), r.Num(1)
	value := r.Take(r.Num(countSize(flags)))
	return api.Raw{Flags: flags &^ api.FlagLong, Kind: kind, Value: value}
}

// countSize is how many bytes tell how many a value has.
func countSize(flags int) int {
	if flags&api.FlagLong != 0 {
		return 2
	}
	return 1
}

// Join is the way back.
func Join(l ...api.Raw) ([]byte, api.Errno) {
	if len(l) > api.MaxAttrs {
		return nil, api.ErrLong
	}
	return rows.Write(l, whole)
}

// whole is an attribute in bytes.
func whole(w api.Raw) ([]byte, api.Errno) {
	if !within(w.Flags, 0, mostByte) || w.Flags&api.FlagLong != 0 || !within(w.Kind, 0, mostByte) {
		return nil, api.ErrArg
	}
	if len(w.Value) > api.MaxValue {
		return nil, api.ErrLong
	}
	flags := w.Flags
	if len(w.Value) > mostByte {
		flags |= api.FlagLong
	}
	head, _ := cursor.Put([]byte{byte(flags), byte(w.Kind)}, len(w.Value), countSize(flags))
	return append(head, w.Value...), api.OK
}
