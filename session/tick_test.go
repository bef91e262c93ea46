package session_test

import (
	"testing"

	"vinery/api"
	"vinery/session"
)

// holding is a session in StateConfirm, of which both Holds are known.
func holding(t *testing.T, hold, others int) *session.Session {
	t.Helper()
	s := made(t, with(func(p *api.Peer) { p.Hold = hold }))
	s.Do(event(start))
	s.Do(event(connected))
	wantTold(t, s, opened(65001, other, others, families...), says(alive))
	wantState(t, s, confirm, other, min(hold, others), somePeer().Families...)
	return s
}

// wantHeld wants a session that heard something just now to be alive each third of hold, and to fall when that is over.
func wantHeld(t *testing.T, s *session.Session, hold int) {
	t.Helper()
	wasUp := s.State() == up
	for i := 1; i <= hold; i++ {
		var want api.Told
		if hold >= 3 && i%(hold/3) == 0 {
			want.Send = append(want.Send, alive)
		}
		if i == hold {
			want.Send = append(want.Send, note(4, 0))
			want.Close, want.Down = true, wasUp
		}
		wantTold(t, s, event(tick), want)
	}
	wantBare(t, s, idle)
	wantWaits(t, s, toIdle, dials)
}

func TestHolds(t *testing.T) { // P14.2: HOLD is the lesser one of both; ALIVE comes each third of it, rounded down
	all := []int{3, 4, 5, 6, 7, 8, 9, 10, 11, 12, 90, 91, 92, 240, 241, 300}
	for _, hold := range all {
		for _, others := range all {
			wantHeld(t, holding(t, hold, others), min(hold, others))
			s := holding(t, hold, others)
			wantTold(t, s, hearing(alive), api.Told{Up: true})
			wantHeld(t, s, min(hold, others))
		}
	}
	wantHeld(t, holding(t, 65535, 65535), 65535)
	wantHeld(t, holding(t, 65535, api.MaxInt), 65535)
}

func TestNoHold(t *testing.T) { // P14.2: of 0 no timer runs: neither in StateConfirm nor in StateUp
	for _, holds := range [][]int{{0, 0}, {0, 3}, {0, 65535}, {3, 0}, {90, 0}, {65535, 0}, {0, api.MaxInt}} {
		s := holding(t, holds[0], holds[1])
		wantQuiet(t, s, long)
		wantTold(t, s, hearing(alive), api.Told{Up: true})
		wantQuiet(t, s, long)
		wantTold(t, s, hearing(alive), nothing)
		wantQuiet(t, s, long)
		wantState(t, s, up, other, 0, somePeer().Families...)
	}
}

func TestHoldsOfNobody(t *testing.T) { // P14.2: of 1 and 2 there is no third, so no ALIVE; of one below 0 there are no timers
	for _, hold := range []int{1, 2} {
		wantHeld(t, holding(t, 90, hold), hold)
		s := holding(t, 3, hold)
		wantTold(t, s, hearing(alive), api.Told{Up: true})
		wantHeld(t, s, hold)
	}
	for _, hold := range []int{-1, -2, -3, -90, api.MinInt} {
		s := holding(t, 90, hold)
		wantQuiet(t, s, long)
		wantTold(t, s, hearing(alive), api.Told{Up: true})
		wantQuiet(t, s, long)
	}
}

func TestHoldStartsAnew(t *testing.T) { // P14.2: with each MsgAlive, MsgUpdate, MsgRefresh that is heard; ALIVE goes on as it was
	for _, kind := range []int{kindAlive, kindUpdate, kindRefresh} {
		s := at(t, up)
		for i := 1; i <= 10*30; i++ {
			want := nothing
			if i%10 == 0 {
				want = says(alive)
			}
			wantTold(t, s, event(tick), want)
			if i%29 == 0 {
				wantTold(t, s, hearing(api.Message{Kind: kind}), nothing)
			}
		}
		for i := 10*30 + 1; i < 290+30; i++ {
			want := nothing
			if i%10 == 0 {
				want = says(alive)
			}
			wantTold(t, s, event(tick), want)
		}
		wantTold(t, s, event(tick), down(falls(alive, note(4, 0)), true))
		wantFallen(t, s)
	}
}

func TestHoldOfConfirm(t *testing.T) { // P14.2: it starts anew with Up, and ALIVE goes on as it was
	for ticks := range 30 {
		s := at(t, confirm)
		for range ticks {
			s.Do(event(tick))
		}
		wantTold(t, s, hearing(alive), api.Told{Up: true})
		for i := ticks + 1; i < ticks+30; i++ {
			want := nothing
			if i%10 == 0 {
				want = says(alive)
			}
			wantTold(t, s, event(tick), want)
		}
		want := falls(note(4, 0))
		if ticks%10 == 0 {
			want = falls(alive, note(4, 0))
		}
		wantTold(t, s, event(tick), down(want, true))
		wantFallen(t, s)
	}
}

func TestOpenTimer(t *testing.T) { // P14.2: without an open it falls with {4 0}; with one OPEN is gone, however late
	for _, ticks := range []int{0, 1, 100, toOpen - 1} {
		s := at(t, sent)
		wantQuiet(t, s, ticks)
		wantTold(t, s, hearing(otherOpen()), says(alive))
		wantGoesOn(t, s, confirm)

		s = at(t, sent)
		wantQuiet(t, s, ticks)
		wantTold(t, s, opened(65001, other, 0), says(alive))
		wantQuiet(t, s, long)
	}
	s := at(t, sent)
	wantWaits(t, s, toOpen, falls(note(4, 0)))
	wantFallen(t, s)
}

func TestNothingStaysBehindAFall(t *testing.T) { // P14.2: no timer of the old connection runs in the new one
	for ticks := range 29 {
		for _, e := range []api.Event{event(closed), hearing(note(6, 2)), brokenBy(api.Note{Code: 1}), hearing(otherOpen())} {
			s := at(t, up)
			for range ticks {
				s.Do(event(tick))
			}
			s.Do(e)
			wantBare(t, s, idle)
			wantTold(t, s, event(start), dials)
			wantTold(t, s, event(connected), says(ownOpen()))
			wantGoesOn(t, s, sent)
		}
	}
}
