package session

import (
	"bytes"

	"vinery/api"
)

// fall ends its connection, with a Note, if that has a Code; unless it is stopped, it starts again in some ticks.
func (s *Session) fall(n api.Note, told *api.Told) {
	told.Down = s.state == api.StateUp
	if n.Code != 0 {
		n.Data = bytes.Clone(n.Data)
		say(told, api.Message{Kind: api.MsgNote, Note: n})
	}
	told.Close = true
	s.rest()
	if !s.stopped {
		s.set(timerIdle, api.TicksIdle)
	}
}

// rest leaves it idle: no timer runs, nothing is agreed.
func (s *Session) rest() {
	s.state = api.StateIdle
	s.timers.Clear()
	s.agreed = agreed{}
}

// say tells a message, behind those that are told already.
func say(told *api.Told, m api.Message) { told.Send = append(told.Send, m) }
