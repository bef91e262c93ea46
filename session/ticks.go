package session

import "vinery/api"

// The timers: those that come with one tick come in this order, as names rise so.
const (
	timerAlive = "ALIVE"
	timerHold  = "HOLD"
	timerIdle  = "IDLE"
	timerOpen  = "OPEN"
	timerRetry = "RETRY"
)

// aliveShare is which part of HOLD goes by, at most, till the other one hears that this one is alive.
const aliveShare = 3

// set starts a timer, anew if it runs: of no ticks there is none.
func (s *Session) set(name string, ticks int) {
	if ticks > 0 {
		s.timers.Start(name, ticks)
	}
}

func (s *Session) tick(_ api.Event, told *api.Told) {
	for _, name := range s.timers.Tick() {
		s.stepWith(name)(told)
		if told.Close { // what else came with this tick was of the connection that fell
			return
		}
	}
}

// stepWith is the step that comes with a timer.
func (s *Session) stepWith(name string) func(*api.Told) {
	switch name {
	case timerAlive:
		return s.remind
	case timerHold, timerOpen:
		return s.expire
	}
	return s.dial
}

// remind tells the other one that this one is alive, and does so again in some ticks.
func (s *Session) remind(told *api.Told) {
	say(told, api.Message{Kind: api.MsgAlive})
	s.set(timerAlive, s.agreed.hold/aliveShare)
}

func (s *Session) expire(told *api.Told) { s.fall(api.Note{Code: codeHold}, told) }

// dial asks to be connected, and does so again in some ticks.
func (s *Session) dial(told *api.Told) {
	s.state = api.StateConnect
	told.Dial = true
	s.set(timerRetry, api.TicksRetry)
}
