package stream_test

import (
	"slices"
	"testing"

	"vinery/api"
	"vinery/message"
	"vinery/stream"
)

// fault is what breaks a stream: bytes, of which so many are looked at, and the Note.
type fault struct {
	name  string
	bytes []byte
	at    int // it breaks with this many of them
	note  api.Note
}

// headFault is of a head that is wrong: whatever is behind it.
func headFault(name string, b []byte, sub int, data ...byte) fault {
	return fault{name, b, headSize, api.Note{Code: 1, Sub: sub, Data: data}}
}

// bodyFault is of a body that is wrong.
func bodyFault(name string, b []byte, code, sub int, data ...byte) fault {
	return fault{name, b, len(b), api.Note{Code: code, Sub: sub, Data: data}}
}

// odd is a mark with another byte at a place.
func odd(at int, b byte) []byte {
	m := framed(kindAlive)
	m[at] = b
	return m
}

// faults are all sorts of them: anew in each call.
func faults() []fault {
	open := []byte{4, 253, 232, 0, 90, 10, 0, 0, 1, 0}
	with := func(at int, b ...byte) []byte {
		return framed(kindOpen, slices.Replace(slices.Clone(open), at, at+len(b), b...)...)
	}
	return []fault{
		headFault("zeros", make([]byte, headSize), 1),
		headFault("the first byte", odd(0, 254), 1),
		headFault("the last one of the mark", odd(15, 0), 1),
		headFault("mark and length", cat(make([]byte, 16), []byte{0, 1, 9}), 1),
		headFault("a length of 18", head(18, 4), 2, 0, 18),
		headFault("a length of 0", head(0, 4), 2, 0, 0),
		headFault("a length of 4097", head(most+1, 3), 2, 16, 1),
		headFault("a length of 65535", head(1<<16-1, 3), 2, 255, 255),
		headFault("length and Kind", head(18, 9), 2, 0, 18),
		headFault("a Kind of 0", head(19, 0), 3, 0),
		headFault("a Kind of 6", head(most, 6), 3, 6),
		headFault("a Kind of 255", head(19, 255), 3, 255),
		headFault("a short open", head(28, kindOpen), 2, 0, 28),
		headFault("a short update", head(22, kindUpdate), 2, 0, 22),
		headFault("a short note", head(20, kindNote), 2, 0, 20),
		headFault("a long alive", head(20, kindAlive), 2, 0, 20),
		headFault("a short refresh", head(22, kindRefresh), 2, 0, 22),
		headFault("a long refresh", head(24, kindRefresh), 2, 0, 24),
		bodyFault("an open of another version", with(0, 3), 2, 1, 0, 4),
		bodyFault("an open that says too much", with(9, 1), 2, 0),
		bodyFault("an open with no AS", with(1, 0, 0), 2, 2),
		bodyFault("an open that holds for 1", with(3, 0, 1), 2, 6),
		bodyFault("an open of no Id", with(5, 0, 0, 0, 0), 2, 3),
		bodyFault("an open with another parameter", framed(kindOpen, cat(open[:9], []byte{2, 1, 0})...), 2, 4),
		bodyFault("an update that says too much", framed(kindUpdate, 0, 0, 0, 1), 3, 1),
		bodyFault("an update with a table twice", updateOf(unreach, unreach), 3, 1),
		bodyFault("the longest open", framed(kindOpen, cat(open, make([]byte, most-headSize-10))...), 2, 0),
	}
}

// wantFault wants a stream to be broken by a fault.
func wantFault(t *testing.T, s *stream.Stream, f fault) {
	t.Helper()
	wantBroken(t, s, f.note.Code, f.note.Sub, f.note.Data...)
}

func TestFaultsAreSuch(t *testing.T) { // P12.1: the Notes of this test are those that Head and Body tell
	for _, f := range faults() {
		kind, size, note, _ := message.Head(f.bytes)
		if note.Code == 0 {
			if len(f.bytes) != headSize+size {
				t.Errorf("%s: a body of %d, want %d", f.name, len(f.bytes)-headSize, size)
			}
			_, _, note = message.Body(kind, f.bytes[headSize:])
		}
		if !equal(note, f.note) {
			t.Errorf("%s: %v, want %v", f.name, note, f.note)
		}
	}
}

func TestFaultsBreak(t *testing.T) { // P12.1, P12.2: with the first byte that shows them, and no sooner
	for _, f := range faults() {
		for n := range f.at {
			if n > 60 && n < f.at-2 {
				continue
			}
			s := fed(f.bytes[:n])
			wantWaiting(t, s, n)
			wantHeard(t, s, f.bytes[n:])
			wantFault(t, s, f)
		}
		wantFault(t, fed(f.bytes), f)
		wantFault(t, fed(f.bytes[:f.at]), f)
	}
}

func TestFaultsBehindMessages(t *testing.T) { // P12.1: the messages ahead come, those behind do not
	all := rights()
	b := written(t, all...)
	for _, f := range faults() {
		s := stream.New()
		wantHeard(t, s, cat(b, f.bytes, b), heard(all...)...)
		wantFault(t, s, f)
		s = stream.New()
		wantHeard(t, s, cat(b, f.bytes[:f.at-1]), heard(all...)...)
		wantWaiting(t, s, f.at-1)
		wantHeard(t, s, f.bytes[f.at-1:])
		wantFault(t, s, f)
	}
}

func TestFirstFault(t *testing.T) { // P12.1, P12.2: it is the first one that broke it, and stays so
	all := faults()
	for i, f := range all {
		s := fed(f.bytes)
		for _, other := range all {
			wantHeard(t, s, other.bytes)
		}
		wantFault(t, s, f)
		wantFault(t, fed(cat(f.bytes, all[(i+1)%len(all)].bytes)), f)
	}
}
