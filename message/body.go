package message

import (
	"vinery/api"
	"vinery/cursor"
	"vinery/family"
	"vinery/update"
)

// Bytes is one in bytes.
func Bytes(m api.Message) ([]byte, api.Errno) {
	if !Right(m) {
		return nil, api.ErrArg
	}
	b, errno := body(m)
	if errno != api.OK {
		return nil, errno
	}
	return append(head(m.Kind, len(b)), b...), api.OK
}

// body is that of a message that is right.
func body(m api.Message) ([]byte, api.Errno) {
	switch m.Kind {
	case api.MsgOpen:
		return openBytes(m.Open), api.OK
	case api.MsgUpdate:
		return update.Bytes(m.Update)
	case api.MsgNote:
		return append([]byte{byte(m.Note.Code), byte(m.Note.Sub)}, m.Note.Data...), api.OK
	case api.MsgRefresh:
		return familyBytes(m.Family), api.OK
	}
	return nil, api.OK
}

// familyBytes are those of a family that is known.
func familyBytes(f api.Family) []byte {
	return []byte{0, family.Number(f.Size), 0, byte(f.Safi)}
}

// Body reads a body.
func Body(kind int, b []byte) (api.Message, int, api.Note) {
	what, out, note := said(kind, b)
	if out == api.OutReset {
		return api.Message{}, out, note
	}
	return saying(kind, what), out, note
}

// said is what a body of a kind says, and what comes of it.
func said(kind int, b []byte) (any, int, api.Note) {
	switch kind {
	case api.MsgOpen:
		return readOpen(b)
	case api.MsgUpdate:
		return update.Parse(b)
	case api.MsgNote:
		return readNote(b)
	case api.MsgAlive:
		return nil, api.OutOk, api.Note{}
	case api.MsgRefresh:
		return readRefresh(b)
	}
	return nil, api.OutReset, api.Note{Code: codeHead, Sub: subKind}
}

// saying is a message of what its kind says: what said tells of that kind.
func saying(kind int, what any) api.Message {
	m := api.Message{Kind: kind}
	switch kind {
	case api.MsgOpen:
		m.Open = what.(api.Open)
	case api.MsgUpdate:
		m.Update = what.(api.Update)
	case api.MsgNote:
		m.Note = what.(api.Note)
	case api.MsgRefresh:
		m.Family = what.(api.Family)
	}
	return m
}

// readNote reads why the other one ends the session.
func readNote(b []byte) (api.Note, int, api.Note) {
	r := cursor.Open(b)
	n := api.Note{Code: r.Num(1), Sub: r.Num(1)}
	if r.Bad() {
		return api.Note{}, api.OutReset, api.Note{Code: codeHead, Sub: subLength}
	}
	n.Data = r.Take(r.Left())
	return n, api.OutOk, api.Note{}
}

// readRefresh reads of which family all routes are asked for: of none, if it is let go.
func readRefresh(b []byte) (api.Family, int, api.Note) {
	f, whole := readFamily(cursor.Open(b))
	if !whole || !family.Known(f) {
		return api.Family{}, api.OutDiscard, api.Note{}
	}
	return f, api.OutOk, api.Note{}
}

// readFamily reads a family, known or not: false, if that is not just all that there is.
func readFamily(r *cursor.Reader) (api.Family, bool) {
	f := api.Family{Size: family.Size(r.Num(2))}
	r.Take(1)
	f.Safi = r.Num(1)
	return f, !r.Bad() && r.Left() == 0
}
