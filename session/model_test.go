package session_test

import (
	"strings"

	"vinery/api"
)

// rules say what comes of what happens, in each state: nothing, where none is named. (A number is the Note of a fall.)
var rules = [5]string{
	idle:    "start=dial stop=rest",
	connect: "stop=rest connected=greet",
	sent:    "stop=62 closed=lost broken=told note=00 open=agree update=51 alive=51 refresh=51 other=51",
	confirm: "stop=62 closed=lost broken=told note=00 open=52 update=52 alive=up refresh=52 other=52",
	up:      "stop=62 closed=lost broken=told note=00 open=53 update=anew alive=anew refresh=anew other=53",
}

// word is what happens, as rules name it.
func word(e api.Event) string {
	kinds := [...]string{"other", "open", "update", "note", "alive", "refresh"}
	all := [...]string{"", "start", "stop", "connected", "closed", "", "broken", "tick"}
	switch kind := e.Heard.Message.Kind; {
	case e.Do < 0 || e.Do >= len(all):
		return ""
	case e.Do != heard:
		return all[e.Do]
	case kind < 0 || kind >= len(kinds):
		return "other"
	default:
		return kinds[kind]
	}
}

// rule is the one for what happens.
func rule(state int, e api.Event) string {
	for _, one := range strings.Fields(rules[state]) {
		what, comes, _ := strings.Cut(one, "=")
		if what == word(e) {
			return comes
		}
	}
	return ""
}

// model is a session as the chapter's words say it: ticks are counted, and each timer knows with which one it comes.
type model struct {
	peer    api.Peer
	state   int
	stopped bool
	now     int
	comes   map[string]int
	id      api.Addr
	hold    int
	agreed  []api.Family
}

func newModel(p api.Peer) *model { return &model{peer: p, comes: map[string]int{}} }

func (m *model) run(name string, ticks int) {
	delete(m.comes, name)
	if ticks > 0 {
		m.comes[name] = m.now + ticks
	}
}

// third is rounded down, also below 0.
func (m *model) third() int { return max(m.hold, 0) / 3 }

func (m *model) do(e api.Event) api.Told {
	if e.Do == tick {
		return m.tick()
	}
	m.stopped = e.Do == stop || m.stopped && e.Do != start
	switch r := rule(m.state, e); r {
	case "":
		return api.Told{}
	case "dial":
		delete(m.comes, "IDLE")
		return m.dial()
	case "rest":
		m.state, m.comes = idle, map[string]int{}
		return api.Told{}
	case "greet":
		m.state = sent
		delete(m.comes, "RETRY")
		m.run("OPEN", 240)
		return says(api.Message{Kind: kindOpen, Open: api.Open{AS: m.peer.AS, Hold: m.peer.Hold, Id: m.peer.Id, Families: m.peer.Families, Refresh: true}})
	case "lost":
		out := m.fall(api.Note{})
		out.Close = false
		return out
	case "told":
		return m.fall(e.Note)
	case "agree":
		return m.agree(e.Heard.Message.Open)
	case "up":
		m.state = up
		m.run("HOLD", m.hold)
		return api.Told{Up: true}
	case "anew":
		m.run("HOLD", m.hold)
		return api.Told{}
	default:
		return m.fall(api.Note{Code: int(r[0] - '0'), Sub: int(r[1] - '0')})
	}
}

func (m *model) dial() api.Told {
	m.state = connect
	m.run("RETRY", 5)
	return api.Told{Dial: true}
}

func (m *model) agree(o api.Open) api.Told {
	if o.AS != m.peer.Other {
		return m.fall(api.Note{Code: 2, Sub: 2})
	}
	if o.Id == m.peer.Id {
		return m.fall(api.Note{Code: 2, Sub: 3})
	}
	m.state, m.id, m.hold = confirm, o.Id, o.Hold
	if m.peer.Hold < m.hold {
		m.hold = m.peer.Hold
	}
	has := map[api.Family]bool{}
	for _, f := range o.Families {
		has[f] = true
	}
	for _, f := range m.peer.Families {
		if has[f] {
			m.agreed = append(m.agreed, f)
		}
	}
	delete(m.comes, "OPEN")
	m.run("HOLD", m.hold)
	m.run("ALIVE", m.third())
	return says(alive)
}

func (m *model) fall(n api.Note) api.Told {
	out := api.Told{Down: m.state == up, Close: true}
	if n.Code != 0 {
		out.Send = append(out.Send, api.Message{Kind: kindNote, Note: n})
	}
	m.state, m.comes, m.id, m.hold, m.agreed = idle, map[string]int{}, api.Addr{}, 0, nil
	if !m.stopped {
		m.run("IDLE", 3)
	}
	return out
}

func (m *model) tick() api.Told {
	m.now++
	due := func(name string) bool { return m.comes[name] == m.now }
	alives, ends, dials := due("ALIVE"), due("HOLD") || due("OPEN"), due("IDLE") || due("RETRY")
	var out api.Told
	if alives {
		m.run("ALIVE", m.third())
		out = says(alive)
	}
	switch {
	case ends:
		ahead := out.Send
		out = m.fall(api.Note{Code: 4})
		out.Send = append(ahead, out.Send...)
	case dials:
		delete(m.comes, "IDLE")
		out = m.dial()
	}
	return out
}
