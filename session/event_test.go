package session_test

import (
	"testing"

	"vinery/api"
)

// wantNothing wants something to change nothing in a state, and to tell nothing; so often as it happens.
func wantNothing(t *testing.T, state int, e api.Event) {
	t.Helper()
	s := at(t, state)
	for range 3 {
		wantTold(t, s, e, nothing)
	}
	wantGoesOn(t, s, state)
}

func TestOtherEvents(t *testing.T) { // P14.2: what is not named changes nothing, whatever comes with it
	for _, state := range states {
		for _, do := range []int{0, 8, 9, -1, -7, 255, 256, 256 + tick, 1<<32 + start, api.MinInt, api.MinInt + stop, api.MaxInt} {
			wantNothing(t, state, event(do))
			wantNothing(t, state, api.Event{Do: do, Heard: api.Heard{Message: note(6, 2), Out: 3}, Note: api.Note{Code: 1, Sub: 1}})
		}
	}
}

func TestEventsWithoutTheirState(t *testing.T) { // P14.2: SesStart but in StateIdle, SesConnected but in StateConnect, the others without a connection
	for _, state := range []int{connect, sent, confirm, up} {
		wantNothing(t, state, event(start))
	}
	for _, state := range []int{idle, sent, confirm, up} {
		wantNothing(t, state, event(connected))
	}
	for _, state := range []int{idle, connect} {
		wantNothing(t, state, event(closed))
		wantNothing(t, state, brokenBy(api.Note{}))
		wantNothing(t, state, brokenBy(api.Note{Code: 1, Sub: 1, Data: []byte{1}}))
		for _, m := range messages() {
			wantNothing(t, state, hearing(m))
		}
	}
}

func TestStart(t *testing.T) { // P14.2: it dials
	s := at(t, idle)
	wantTold(t, s, event(start), dials)
	wantDialing(t, s)
}

func TestStartAhead(t *testing.T) { // P14.2: where IDLE runs it is gone
	for ticks := range toIdle {
		s := at(t, up)
		s.Do(event(closed))
		wantQuiet(t, s, ticks)
		wantTold(t, s, event(start), dials)
		wantDialing(t, s)
	}
}

func TestConnected(t *testing.T) { // P14.2: it sends its open; RETRY is gone, OPEN runs: whenever it comes
	for ticks := range 3 * toRetry {
		s := at(t, connect)
		for range ticks {
			s.Do(event(tick))
		}
		wantTold(t, s, event(connected), says(ownOpen()))
		wantGoesOn(t, s, sent)
	}
}

func TestStop(t *testing.T) { // P14.2: with a connection it falls with {6 2}; then, and else, nothing runs
	for _, state := range states {
		s := at(t, state)
		want := nothing
		if state >= sent {
			want = down(falls(note(6, 2)), state == up)
		}
		wantTold(t, s, event(stop), want)
		wantResting(t, s)
		wantTold(t, s, event(stop), nothing)
		for _, e := range wayUp()[1:] {
			wantTold(t, s, e, nothing)
		}
		wantResting(t, s)
	}
}

func TestStopWhileIdleRuns(t *testing.T) { // P14.2: IDLE is gone with the others
	for ticks := range toIdle {
		s := at(t, confirm)
		s.Do(event(closed))
		wantQuiet(t, s, ticks)
		wantTold(t, s, event(stop), nothing)
		wantResting(t, s)
	}
}

func TestStopIsForgotten(t *testing.T) { // P14.2: with SesStart it is not stopped: IDLE runs behind a fall again
	for _, state := range states {
		s := at(t, state)
		s.Do(event(stop))
		for i, e := range wayUp() {
			s.Do(e)
			if s.State() != i+1 {
				t.Fatalf("state %d, want %d", s.State(), i+1)
			}
		}
		wantTold(t, s, event(closed), api.Told{Down: true})
		wantFallen(t, s)
	}
}

func TestFallsDoNotStop(t *testing.T) { // P14.2: a session that falls again and again starts again each time
	s := at(t, idle)
	wantTold(t, s, event(start), dials)
	for range 20 {
		for _, e := range wayUp()[1:] {
			s.Do(e)
		}
		wantTold(t, s, event(closed), api.Told{Down: true})
		wantBare(t, s, idle)
		wantWaits(t, s, toIdle, dials)
	}
}

func TestClosed(t *testing.T) { // P14.2: it falls, without a Note, and tells no Close
	for _, state := range []int{sent, confirm, up} {
		s := at(t, state)
		wantTold(t, s, event(closed), api.Told{Down: state == up})
		wantTold(t, s, event(closed), nothing)
		wantFallen(t, s)
	}
}

func TestBroken(t *testing.T) { // P14.2: it falls with that Note, whatever it is; one whose Code is 0 counts for none
	for _, state := range []int{sent, confirm, up} {
		for _, n := range []api.Note{
			{Code: 1, Sub: 1}, {Code: 1, Sub: 2, Data: []byte{0, 18}}, {Code: 3}, {Code: 255, Sub: 255, Data: make([]byte, 5000)}, {Code: 6, Sub: 2},
			{Code: -1}, {Code: 256, Sub: -1}, {Code: api.MinInt, Sub: api.MaxInt}, {Code: 1 << 32},
		} {
			s := at(t, state)
			wantTold(t, s, brokenBy(n), down(falls(note(n.Code, n.Sub, n.Data...)), state == up))
			wantTold(t, s, brokenBy(n), nothing)
			wantFallen(t, s)
		}
		for _, n := range []api.Note{{}, {Sub: 1}, {Data: []byte{1}}, {Sub: -1, Data: []byte{1, 2}}} {
			s := at(t, state)
			wantTold(t, s, brokenBy(n), down(falls(), state == up))
			wantFallen(t, s)
		}
	}
}

func TestBrokenByOthersParts(t *testing.T) { // P14.2: just its Note counts, not what was heard; of SesHeard the other way round
	e := brokenBy(api.Note{Code: 1, Sub: 3, Data: []byte{9}})
	e.Heard = api.Heard{Message: note(6, 2), Out: 3}
	wantTold(t, at(t, up), e, down(falls(note(1, 3, 9)), true))

	e = hearing(alive)
	e.Note = api.Note{Code: 1, Sub: 1}
	wantTold(t, at(t, confirm), e, api.Told{Up: true})
	wantTold(t, at(t, up), e, nothing)
	wantTold(t, at(t, sent), e, falls(note(5, 1)))
}
