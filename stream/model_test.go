package stream_test

import (
	"vinery/api"
	"vinery/message"
)

// model is a stream as the chapter has it: all bytes that came, gone through anew each time.
type model struct {
	came []byte
	told int // how many messages there were
}

// said is what bytes say: the messages, how many bytes wait, and what broke them off, if anything did.
func said(b []byte) (l []api.Heard, waiting int, note api.Note, broken bool) {
	at := 0
	for at+headSize <= len(b) {
		kind, size, wrong, e := message.Head(b[at : at+headSize])
		if e != api.OK || wrong.Code != 0 {
			return l, 0, wrong, true
		}
		begin, end := at+headSize, at+headSize+size
		if end > len(b) {
			break
		}
		one, out, wrong := message.Body(kind, b[begin:end])
		if out == api.OutReset {
			return l, 0, wrong, true
		}
		l = append(l, api.Heard{Message: one, Out: out})
		at = end
	}
	return l, len(b) - at, api.Note{}, false
}

// feed takes bytes, and tells just the messages that are new with them, and how it is then.
func (m *model) feed(b []byte) (l []api.Heard, waiting int, note api.Note, broken bool) {
	m.came = cat(m.came, b)
	l, waiting, note, broken = said(m.came)
	before := m.told
	m.told = len(l)
	return l[before:], waiting, note, broken
}
