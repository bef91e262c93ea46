package stream_test

import (
	"testing"

	"vinery/api"
	"vinery/message"
	"vinery/stream"
	"vinery/update"
)

func TestNew(t *testing.T) { // P12.1, P12.2: without bytes, not broken
	wantWaiting(t, stream.New(), 0)
	s := stream.New()
	for _, b := range [][]byte{nil, {}, nil} {
		wantHeard(t, s, b)
		wantWaiting(t, s, 0)
	}
}

func TestStreamsAreApart(t *testing.T) { // P12.1: what one has, and what broke it, is no other one's
	one, other := stream.New(), stream.New()
	wantHeard(t, one, framed(kindAlive)[:10])
	wantWaiting(t, other, 0)
	wantHeard(t, other, make([]byte, headSize))
	wantWaiting(t, one, 10)
	wantWaiting(t, stream.New(), 0)
	wantHeard(t, one, framed(kindAlive)[10:], heard(alive)...)
	wantBroken(t, other, 1, 1)
}

func TestExamples(t *testing.T) { // P12.1, P12.2: those of the chapter
	s := stream.New()
	wantHeard(t, s, cat(mark(), []byte{0, 19}))
	wantHeard(t, s, []byte{4}, heard(alive)...)
	wantWaiting(t, s, 0)
	s = stream.New()
	wantHeard(t, s, make([]byte, 19))
	wantBroken(t, s, 1, 1)
	wantHeard(t, s, framed(kindAlive))
}

func TestOneMessage(t *testing.T) { // P12.1, P12.2: it waits till its last byte is there, and then nothing does
	for _, m := range rights() {
		b := written(t, m)
		for n := range len(b) {
			s := stream.New()
			wantHeard(t, s, b[:n])
			wantWaiting(t, s, n)
			if n < 60 || n%97 == 0 || n > len(b)-3 {
				wantHeard(t, s, b[n:], heard(m)...)
				wantWaiting(t, s, 0)
			}
		}
		s := stream.New()
		wantHeard(t, s, b, heard(m)...)
		wantWaiting(t, s, 0)
	}
}

func TestMessagesInOneRow(t *testing.T) { // P12.1: all that are whole come at once, in order; what is behind them waits
	all := rights()
	b := written(t, all...)
	for _, m := range rights() {
		tail := written(t, m)
		for _, n := range []int{0, 1, 15, 18, len(tail) - 1} {
			s := stream.New()
			wantHeard(t, s, cat(b, tail[:n]), heard(all...)...)
			wantWaiting(t, s, n)
			wantHeard(t, s, cat(tail[n:], b), heard(cat([]api.Message{m}, all)...)...)
			wantWaiting(t, s, 0)
		}
	}
}

func TestManyMessagesInOneRow(t *testing.T) { // P12.1: there is no limit of how many bytes come at once
	n := 50000
	b := make([]byte, 0, n*headSize)
	for range n {
		b = append(b, framed(kindAlive)...)
	}
	s := stream.New()
	l := s.Feed(cat(b, []byte{255}))
	for _, h := range l {
		if !equal(h, api.Heard{Message: alive}) {
			t.Fatalf("%+v", h)
		}
	}
	if len(l) != n {
		t.Errorf("%d messages, want %d", len(l), n)
	}
	wantWaiting(t, s, 1)
}

// attribute is one of fewer than 256 bytes.
func attribute(flags, kind byte, value ...byte) []byte {
	return cat([]byte{flags, kind, byte(len(value))}, value)
}

// Attributes of updates: the first two, which routes need, and some that tell routes.
var (
	origin  = attribute(64, 1, 0)
	path    = attribute(64, 2)
	reach   = attribute(128, 14, 0, 1, 5, 4, 10, 0, 0, 1, 0, 1, 12, 0, 0, 0, 0, 0, 0, 0, 0, 10, 0, 0, 1)
	unreach = attribute(128, 15, 0, 2, 128)
)

// updateOf is one of attributes, in bytes.
func updateOf(attrs ...[]byte) []byte {
	b := cat(attrs...)
	return framed(kindUpdate, cat([]byte{0, 0, byte(len(b) >> 8), byte(len(b))}, b)...)
}

func TestWhatComesOfMessages(t *testing.T) { // P12.1: message.Body's outcome stands beside the message, where it is no OutReset
	outs := [3]int{}
	for _, b := range [][]byte{
		framed(kindRefresh, 0, 1, 0, 5), framed(kindRefresh, 0, 1, 0, 1), framed(kindRefresh, 1, 1, 0, 5), framed(kindRefresh, 0, 3, 0, 5), framed(kindAlive),
		updateOf(), updateOf(unreach), updateOf(origin, path, reach, unreach), updateOf(origin, path, reach, attribute(128, 15, 0, 3, 5)), updateOf(reach), updateOf(reach, unreach), updateOf(origin, path, attribute(128, 4, 1), reach),
	} {
		m, out, note := message.Body(int(b[18]), b[headSize:])
		if note.Code > 0 {
			t.Fatalf("Body of %v: %v", b, note)
		}
		outs[out]++
		s := stream.New()
		want := api.Heard{Message: m, Out: out}
		wantHeard(t, s, cat(framed(kindAlive), b, framed(kindAlive), b, b[:18]), api.Heard{Message: alive}, want, api.Heard{Message: alive}, want)
		wantWaiting(t, s, 18)
	}
	for out, n := range outs {
		if n < 2 {
			t.Errorf("of the outcome %d: just %d", out, n)
		}
	}
}

func TestOutcomesByTheirNumbers(t *testing.T) { // P12.1
	refresh := api.Message{Kind: kindRefresh}
	wantHeard(t, stream.New(), framed(kindRefresh, 0, 1, 0, 9), api.Heard{Message: refresh, Out: discarded})
	wantHeard(t, stream.New(), framed(kindRefresh, 0, 1, 9, 5), api.Heard{Message: asRefresh(4, 5), Out: fine})
	gone := update.Empty()
	gone.Unreach = []api.Table{{Size: 4, Safi: 5, M: []api.Mroute{{Kind: api.RouteIntra, From: four1}}}}
	wantHeard(t, stream.New(), updateOf(reach), api.Heard{Message: asUpdate(gone), Out: withdrawn})
}

func TestNotesThatCome(t *testing.T) { // P12.1: a message of the Kind MsgNote is one like others: it breaks nothing
	s := stream.New()
	note := asNote(1, 2, 0, 20)
	wantHeard(t, s, written(t, note, alive), heard(note, alive)...)
	wantWaiting(t, s, 0)
}
