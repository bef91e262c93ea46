package session_test

import (
	"fmt"
	"slices"
	"testing"

	"vinery/api"
	"vinery/session"
)

var (
	_ func(api.Peer) (*session.Session, api.Errno)    = session.New
	_ func(_ *session.Session, e api.Event) api.Told  = (*session.Session).Do
	_ func(*session.Session) (state int)              = (*session.Session).State
	_ func(*session.Session) (families []api.Family)  = (*session.Session).Families
	_ func(*session.Session) (theOtherOnes api.Addr)  = (*session.Session).Id
	_ func(*session.Session) (howManyTicksAtMost int) = (*session.Session).Hold
)

// The error, the states, what happens, the kinds of messages, and the times, as the document's numbers; below: package api tells the same.
const (
	errArg = 1

	idle    = 0
	connect = 1
	sent    = 2
	confirm = 3
	up      = 4

	start     = 1
	stop      = 2
	connected = 3
	closed    = 4
	heard     = 5
	broken    = 6
	tick      = 7

	kindOpen    = 1
	kindUpdate  = 2
	kindNote    = 3
	kindAlive   = 4
	kindRefresh = 5

	toRetry = 5
	toIdle  = 3
	toOpen  = 240
)

var (
	_ [0]struct{} = [(api.StateIdle ^ idle) | (api.StateConnect ^ connect) | (api.StateSent ^ sent) | (api.StateConfirm ^ confirm) | (api.StateUp ^ up)]struct{}{}
	_ [0]struct{} = [(api.SesStart ^ start) | (api.SesStop ^ stop) | (api.SesConnected ^ connected) | (api.SesClosed ^ closed) | (api.SesHeard ^ heard) | (api.SesBroken ^ broken) | (api.SesTick ^ tick)]struct{}{}
	_ [0]struct{} = [(api.MsgOpen ^ kindOpen) | (api.MsgUpdate ^ kindUpdate) | (api.MsgNote ^ kindNote) | (api.MsgAlive ^ kindAlive) | (api.MsgRefresh ^ kindRefresh)]struct{}{}
	_ [0]struct{} = [(api.TicksRetry ^ toRetry) | (api.TicksIdle ^ toIdle) | (api.TicksOpen ^ toOpen) | (int(api.ErrArg) ^ errArg)]struct{}{}
)

// states are all of them; those with a connection stand last.
var states = []int{idle, connect, sent, confirm, up}

// long is so many ticks that each timer of a session of these tests comes.
const long = 1000

func v4(a, b, c, d byte) api.Addr { return api.Addr{Size: 4, B: [16]byte{a, b, c, d}} }

// Who talks to whom.
var (
	own   = v4(10, 0, 0, 1)
	other = v4(10, 0, 0, 2)
)

// The four families.
var (
	fourMulti   = api.Family{Size: 4, Safi: 5}
	sixMulti    = api.Family{Size: 16, Safi: 5}
	fourPrivate = api.Family{Size: 4, Safi: 128}
	sixPrivate  = api.Family{Size: 16, Safi: 128}
	families    = []api.Family{fourMulti, sixMulti, fourPrivate, sixPrivate}
)

// somePeer is what a session of these tests is set up with, in new memory.
func somePeer() api.Peer {
	return api.Peer{AS: 65000, Id: own, Hold: 90, Other: 65001, Families: []api.Family{sixPrivate, fourMulti, fourPrivate}}
}

// ownOpen is how it begins.
func ownOpen() api.Message {
	p := somePeer()
	return api.Message{Kind: kindOpen, Open: api.Open{AS: p.AS, Hold: p.Hold, Id: p.Id, Families: p.Families, Refresh: true}}
}

// otherOpen is how the other one does, in new memory.
func otherOpen() api.Message {
	return api.Message{Kind: kindOpen, Open: api.Open{AS: 65001, Hold: 30, Id: other, Families: []api.Family{fourPrivate, sixMulti, sixPrivate}}}
}

// both are the families that both sides have, in the order of somePeer's.
var both = []api.Family{sixPrivate, fourPrivate}

// alive is the one of its Kind.
var alive = api.Message{Kind: kindAlive}

func note(code, sub int, data ...byte) api.Message {
	return api.Message{Kind: kindNote, Note: api.Note{Code: code, Sub: sub, Data: data}}
}

func event(do int) api.Event          { return api.Event{Do: do} }
func hearing(m api.Message) api.Event { return api.Event{Do: heard, Heard: api.Heard{Message: m}} }
func brokenBy(n api.Note) api.Event   { return api.Event{Do: broken, Note: n} }

// says is that messages are told, and nothing else.
func says(l ...api.Message) api.Told { return api.Told{Send: l} }

// falls is what is told of a fall of a session that was not up.
func falls(l ...api.Message) api.Told { return api.Told{Send: l, Close: true} }

// down is what is told of a fall, if it was up.
func down(told api.Told, was bool) api.Told {
	told.Down = was
	return told
}

var (
	nothing api.Told
	dials   = api.Told{Dial: true}
)

// made is a session that is set up with this.
func made(t *testing.T, p api.Peer) *session.Session {
	t.Helper()
	s, e := session.New(p)
	if e != api.OK || s == nil {
		t.Fatalf("New(%+v): %v, %v", p, s, e)
	}
	return s
}

// wayUp is what happens till a session is up: one thing a state.
func wayUp() []api.Event {
	return []api.Event{event(start), event(connected), hearing(otherOpen()), hearing(alive)}
}

// at is a session of somePeer that is in a state, all of whose timers are fresh.
func at(t *testing.T, state int) *session.Session {
	t.Helper()
	s := made(t, somePeer())
	for _, e := range wayUp()[:state] {
		s.Do(e)
	}
	if s.State() != state {
		t.Fatalf("it is in state %d, want %d", s.State(), state)
	}
	return s
}

// text is a thing as a text, in all depths: rows that are not there are as those that are empty.
func text(x any) string { return fmt.Sprintf("%+v", x) }

// wantTold wants just this to be told where something happens.
func wantTold(t *testing.T, s *session.Session, e api.Event, want api.Told) {
	t.Helper()
	was := s.State()
	if got := s.Do(e); text(got) != text(want) {
		t.Fatalf("Do(%+v) in state %d: %+v, want %+v", e, was, got, want)
	}
}

// wantState wants a session to be in a state, with this agreed.
func wantState(t *testing.T, s *session.Session, state int, id api.Addr, hold int, l ...api.Family) {
	t.Helper()
	if s.State() != state || s.Id() != id || s.Hold() != hold || !slices.Equal(s.Families(), l) {
		t.Fatalf("state %d, Id %v, HOLD %d, families %v; want %d, %v, %d, %v", s.State(), s.Id(), s.Hold(), s.Families(), state, id, hold, l)
	}
}

// wantBare wants a session to be in a state, with nothing agreed.
func wantBare(t *testing.T, s *session.Session, state int) {
	t.Helper()
	wantState(t, s, state, api.Addr{}, 0)
}

// wantQuiet wants nothing to be told for so many ticks, and the state to stay.
func wantQuiet(t *testing.T, s *session.Session, ticks int) {
	t.Helper()
	was := s.State()
	for i := range ticks {
		if got := s.Do(event(tick)); text(got) != text(nothing) || s.State() != was {
			t.Fatalf("tick %d in state %d: %+v, and then state %d", i+1, was, got, s.State())
		}
	}
}

// wantWaits wants something to be told by the last one of so many ticks, and nothing by those ahead of it.
func wantWaits(t *testing.T, s *session.Session, ticks int, want api.Told) {
	t.Helper()
	wantQuiet(t, s, ticks-1)
	wantTold(t, s, event(tick), want)
}

// wantDialing wants a session to be in StateConnect, and to dial again and again.
func wantDialing(t *testing.T, s *session.Session) {
	t.Helper()
	for range 20 {
		wantBare(t, s, connect)
		wantWaits(t, s, toRetry, dials)
	}
}

// wantFallen wants a session to be idle, and to start again: no other timer runs.
func wantFallen(t *testing.T, s *session.Session) {
	t.Helper()
	wantBare(t, s, idle)
	wantWaits(t, s, toIdle, dials)
	wantDialing(t, s)
}

// wantResting wants a session to be idle, and that no timer runs.
func wantResting(t *testing.T, s *session.Session) {
	t.Helper()
	wantBare(t, s, idle)
	wantQuiet(t, s, long)
	wantBare(t, s, idle)
}

// wantGoesOn wants a session that is as at made it to be so still, in all that can be seen of it.
func wantGoesOn(t *testing.T, s *session.Session, state int) {
	t.Helper()
	switch state {
	case idle:
		wantResting(t, s)
	case connect:
		wantDialing(t, s)
	case sent:
		wantBare(t, s, sent)
		wantWaits(t, s, toOpen, falls(note(4, 0)))
		wantFallen(t, s)
	default:
		wantState(t, s, state, other, 30, both...)
		wantWaits(t, s, 10, says(alive))
		wantWaits(t, s, 10, says(alive))
		wantWaits(t, s, 10, down(falls(alive, note(4, 0)), state == up))
		wantFallen(t, s)
	}
}

func TestAt(t *testing.T) { // P14.1, P14.2: a session's way up, and what comes where nothing more is heard
	for _, state := range states {
		wantGoesOn(t, at(t, state), state)
	}
}

func TestExamples(t *testing.T) { // P14.2: each line of the chapter's
	s := made(t, api.Peer{AS: 65000, Id: own, Hold: 90, Other: 65000})
	wantTold(t, s, event(start), dials)
	wantTold(t, s, event(connected), says(api.Message{Kind: kindOpen, Open: api.Open{AS: 65000, Hold: 90, Id: own, Refresh: true}}))
	wantTold(t, s, hearing(api.Message{Kind: kindOpen, Open: api.Open{AS: 65000, Hold: 30, Id: other}}), says(alive))
	wantTold(t, s, hearing(alive), api.Told{Up: true})
	wantState(t, s, up, other, 30)
	wantWaits(t, s, 10, says(alive))
	wantWaits(t, s, 10, says(alive))
	wantWaits(t, s, 10, down(falls(alive, note(4, 0)), true))
}
