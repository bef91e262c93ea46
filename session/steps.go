package session

import (
	"slices"

	"vinery/api"
)

// Why a session ends: the Codes, and their Subs.
const (
	codeOpen  = 2
	subAS     = 2 // an open of another AS than it is set up for
	subId     = 3 // an open with its own Id
	codeHold  = 4 // nothing was heard for too long
	codeState = 5
	subSent   = 1 // in StateSent something that it does not wait for; the states behind that have the next Subs
	codeCease = 6
	subStop   = 2
)

// step is what a session does where something happens.
type step func(e api.Event, told *api.Told)

// Do lets something happen.
func (s *Session) Do(e api.Event) api.Told {
	var told api.Told
	s.stepFor(e.Do)(e, &told)
	return told
}

// stepFor is the step for what happens, in the state that it is in.
func (s *Session) stepFor(do int) step {
	switch {
	case do == api.SesStart && s.state == api.StateIdle:
		return s.start
	case do == api.SesStop:
		return s.stop
	case do == api.SesConnected && s.state == api.StateConnect:
		return s.greet
	case do == api.SesClosed && s.connected():
		return s.lose
	case do == api.SesHeard && s.connected():
		return s.hear
	case do == api.SesBroken && s.connected():
		return s.refuse
	case do == api.SesTick:
		return s.tick
	}
	return s.ignore
}

// ignore is the step for all that changes nothing.
func (s *Session) ignore(api.Event, *api.Told) {}

func (s *Session) start(_ api.Event, told *api.Told) {
	s.stopped = false
	s.timers.Stop(timerIdle)
	s.dial(told)
}

func (s *Session) stop(_ api.Event, told *api.Told) {
	s.stopped = true
	if s.connected() {
		s.fall(api.Note{Code: codeCease, Sub: subStop}, told)
		return
	}
	s.rest()
}

func (s *Session) greet(_ api.Event, told *api.Told) {
	say(told, open(s.peer))
	s.state = api.StateSent
	s.timers.Stop(timerRetry)
	s.set(timerOpen, api.TicksOpen)
}

func (s *Session) lose(_ api.Event, told *api.Told) {
	s.fall(api.Note{}, told)
	told.Close = false // as there is nothing any more that could end
}

func (s *Session) refuse(e api.Event, told *api.Told) { s.fall(e.Note, told) }

// hear takes a message: in each state some are waited for, and any other one ends the connection.
func (s *Session) hear(e api.Event, told *api.Told) {
	switch m := e.Heard.Message; {
	case m.Kind == api.MsgNote:
		s.fall(api.Note{}, told)
	case s.state == api.StateSent && m.Kind == api.MsgOpen:
		s.take(m.Open, told)
	case s.state == api.StateConfirm && m.Kind == api.MsgAlive:
		s.state = api.StateUp
		told.Up = true
		s.set(timerHold, s.agreed.hold)
	case s.state == api.StateUp && keepsUp(m.Kind):
		s.set(timerHold, s.agreed.hold)
	default:
		s.fall(api.Note{Code: codeState, Sub: subSent + s.state - api.StateSent}, told)
	}
}

// keepsUp tells whether a message of a kind is waited for in StateUp.
func keepsUp(kind int) bool {
	return kind == api.MsgAlive || kind == api.MsgUpdate || kind == api.MsgRefresh
}

// take takes the other one's open.
func (s *Session) take(o api.Open, told *api.Told) {
	switch {
	case o.AS != s.peer.Other:
		s.fall(api.Note{Code: codeOpen, Sub: subAS}, told)
	case o.Id == s.peer.Id:
		s.fall(api.Note{Code: codeOpen, Sub: subId}, told)
	default:
		s.agree(o, told)
	}
}

// agree agrees with the other one on what both can.
func (s *Session) agree(o api.Open, told *api.Told) {
	s.agreed = agreed{id: o.Id, hold: min(s.peer.Hold, o.Hold), families: common(s.peer.Families, o.Families)}
	s.state = api.StateConfirm
	s.timers.Stop(timerOpen)
	s.set(timerHold, s.agreed.hold)
	s.remind(told)
}

// common are those of own that the other one has too.
func common(own, other []api.Family) []api.Family {
	var l []api.Family
	for _, f := range own {
		if slices.Contains(other, f) {
			l = append(l, f)
		}
	}
	return l
}
