package message

import (
	"bytes"

	"vinery/api"
	"vinery/cursor"
)

// How many bytes the parts of a head have: the mark, the length; one more is the Kind.
const (
	markSize   = 16
	lengthSize = 2
)

// How many bytes a body has: of MsgOpen, MsgUpdate and MsgNote at least, of MsgRefresh just.
const (
	openSize    = 10
	updateSize  = 4
	noteSize    = 2
	refreshSize = 4
)

// Why a session ends: the Code of what a head was, and its Subs.
const (
	codeHead  = 1
	subMark   = 1 // what may be no message's beginning
	subLength = 2 // a length that may not be
	subKind   = 3 // a Kind that there is not
)

// lengths are how many bytes a message of a kind may have, with its head: none, of what is no kind.
func lengths(kind int) (least, most int) {
	switch kind {
	case api.MsgOpen:
		return api.HeadSize + openSize, api.MaxMessage
	case api.MsgUpdate:
		return api.HeadSize + updateSize, api.MaxMessage
	case api.MsgNote:
		return api.HeadSize + noteSize, api.MaxMessage
	case api.MsgAlive:
		return api.HeadSize, api.HeadSize
	case api.MsgRefresh:
		return api.HeadSize + refreshSize, api.HeadSize + refreshSize
	}
	return 0, 0
}

// mark is what each message begins with.
func mark() []byte { return bytes.Repeat([]byte{255}, markSize) }

// head is that of a body.
func head(kind, size int) []byte {
	b, _ := cursor.Put(mark(), api.HeadSize+size, lengthSize)
	return append(b, byte(kind))
}

// Head reads a head.
func Head(b []byte) (int, int, api.Note, api.Errno) {
	if len(b) < api.HeadSize {
		return 0, 0, api.Note{}, api.ErrEnd
	}
	r := cursor.Open(b[:api.HeadSize])
	marked := bytes.Equal(r.Take(markSize), mark())
	length, kind := r.Num(lengthSize), r.Num(1)
	if sub := wrong(marked, length, kind); sub > 0 {
		return 0, 0, headNote(sub, length, kind), api.OK
	}
	return kind, length - api.HeadSize, api.Note{}, api.OK
}

// wrong is the Sub of the first thing in a head that is wrong: 0, if nothing is.
func wrong(marked bool, length, kind int) int {
	least, most := lengths(kind)
	switch {
	case !marked:
		return subMark
	case !within(length, api.HeadSize, api.MaxMessage):
		return subLength
	case most == 0:
		return subKind
	case !within(length, least, most):
		return subLength
	}
	return 0
}

// headNote is the Note of a Sub, with what was wrong.
func headNote(sub, length, kind int) api.Note {
	n := api.Note{Code: codeHead, Sub: sub}
	switch sub {
	case subLength:
		n.Data, _ = cursor.Put(nil, length, lengthSize)
	case subKind:
		n.Data = []byte{byte(kind)}
	}
	return n
}
