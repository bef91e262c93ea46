package session_test

import (
	"math/rand/v2"
	"slices"
	"testing"

	"vinery/api"
	"vinery/session"
)

// pick is one of some.
func pick[T any](r *rand.Rand, l ...T) T { return l[r.IntN(len(l))] }

// seldom is true once in so many times.
func seldom(r *rand.Rand, often int) bool { return r.IntN(often) == 0 }

// anyFamilies are some of the four, each once, in any order.
func anyFamilies(r *rand.Rand) []api.Family {
	l := slices.Clone(families)
	r.Shuffle(len(l), func(i, j int) { l[i], l[j] = l[j], l[i] })
	return l[:r.IntN(len(l)+1)]
}

// anyPeer is one that is right, mostly with a short Hold.
func anyPeer(r *rand.Rand) api.Peer {
	return api.Peer{AS: 1 + r.IntN(1<<32-1), Id: own, Hold: pick(r, 0, 3, 4, 5, 7, 12, 20, 65535), Other: pick(r, 1, 65001, 1<<32-1), Families: anyFamilies(r)}
}

// anyOpen is mostly one that is waited for.
func anyOpen(r *rand.Rand, p api.Peer) api.Open {
	o := api.Open{AS: p.Other, Hold: pick(r, 0, 3, 4, 6, 8, 13, 65535), Id: other, Families: anyFamilies(r), Refresh: seldom(r, 2)}
	if seldom(r, 8) {
		o.AS = pick(r, p.AS, 0, -1, api.MinInt, 1+r.IntN(1<<32-1))
	}
	if seldom(r, 8) {
		o.Id = pick(r, own, api.Addr{}, v4(0, 0, 0, 0))
	}
	if seldom(r, 8) {
		o.Hold = pick(r, 1, 2, -1, -3, api.MinInt, api.MaxInt)
	}
	return o
}

// anyMessage is one of any Kind.
func anyMessage(r *rand.Rand, p api.Peer) api.Message {
	m := api.Message{Kind: pick(r, kindOpen, kindUpdate, kindUpdate, kindAlive, kindAlive, kindRefresh)}
	switch {
	case seldom(r, 12):
		m = note(r.IntN(7), r.IntN(3))
	case seldom(r, 12):
		m.Kind = pick(r, 0, 6, -1, api.MinInt, int(r.Uint64()))
	}
	if m.Kind == kindOpen {
		m.Open = anyOpen(r, p)
	}
	return m
}

// next is what brings a session further up, or keeps it there.
func next(r *rand.Rand, p api.Peer, state int) api.Event {
	switch state {
	case idle:
		return event(start)
	case connect:
		return event(connected)
	case sent:
		return hearing(api.Message{Kind: kindOpen, Open: anyOpen(r, p)})
	case confirm:
		return hearing(alive)
	}
	return hearing(api.Message{Kind: pick(r, kindAlive, kindUpdate, kindRefresh)})
}

// anyEvent is mostly a tick, or what brings a session further.
func anyEvent(r *rand.Rand, p api.Peer, state int) api.Event {
	switch n := r.IntN(100); {
	case n < 60:
		return event(tick)
	case n < 85:
		return next(r, p, state)
	case n < 90:
		e := hearing(anyMessage(r, p))
		e.Heard.Out = r.IntN(4)
		return e
	case n < 92:
		return brokenBy(api.Note{Code: r.IntN(4), Sub: r.IntN(4), Data: make([]byte, r.IntN(3))})
	case n < 93:
		return event(pick(r, 0, 8, -1, api.MinInt, int(r.Uint64())))
	}
	return event(pick(r, start, stop, connected, connected, closed))
}

// wantAs wants a session to be seen as the model is.
func wantAs(t *testing.T, s *session.Session, m *model) {
	t.Helper()
	wantState(t, s, m.state, m.id, m.hold, m.agreed...)
}

func TestAsTheModel(t *testing.T) { // P14.1, P14.2, W2: event by event
	r := rand.New(rand.NewPCG(14, 1))
	seen := map[string]int{}
	for range 1500 {
		p := anyPeer(r)
		s, m := made(t, p), newModel(p)
		for range 200 {
			e := anyEvent(r, p, m.state)
			was, what := m.state, word(e)
			want := m.do(e)
			wantTold(t, s, e, want)
			wantAs(t, s, m)
			seen["state "+text(was)+": "+what]++
			for _, one := range want.Send {
				seen["says "+text(one.Kind)+text(one.Note.Code)+text(one.Note.Sub)]++
			}
			seen["told "+text([]bool{want.Dial, want.Close, want.Up, want.Down})]++
		}
	}
	for _, state := range states {
		for _, what := range []string{"start", "stop", "connected", "closed", "broken", "tick", "open", "update", "note", "alive", "refresh", "other"} {
			if n := seen["state "+text(state)+": "+what]; n < 40 {
				t.Errorf("%s in state %d: %d times", what, state, n)
			}
		}
	}
	for _, what := range []string{"says 100", "says 400", "says 322", "says 323", "says 340", "says 351", "says 352", "says 353", "says 362", "told [false true false true]", "told [false false false true]", "told [false false true false]", "told [true false false false]"} {
		if seen[what] < 100 {
			t.Errorf("%s: %d times", what, seen[what])
		}
	}
}

func TestUpsAndDowns(t *testing.T) { // P14.5: each follows the other, it is up between them; Close comes with a connection alone
	r := rand.New(rand.NewPCG(14, 2))
	ups, downs, closes := 0, 0, 0
	for range 1500 {
		p := anyPeer(r)
		s := made(t, p)
		isUp := false
		for range 200 {
			was := s.State()
			told := s.Do(anyEvent(r, p, was))
			if told.Up && (isUp || told.Down) || told.Down && !isUp {
				t.Fatalf("up: %v, and then %+v", isUp, told)
			}
			isUp = told.Up || isUp && !told.Down
			if isUp != (s.State() == up) {
				t.Fatalf("up: %v, in state %d", isUp, s.State())
			}
			if told.Close && was != sent && was != confirm && was != up {
				t.Fatalf("Close in state %d", was)
			}
			ups += number(told.Up)
			downs += number(told.Down)
			closes += number(told.Close)
		}
	}
	if ups < 1000 || downs < 1000 || closes < 1000 {
		t.Errorf("just %d ups, %d downs, %d closes", ups, downs, closes)
	}
}

// number is 1 of what is so, else 0.
func number(is bool) int {
	if is {
		return 1
	}
	return 0
}

func TestEventsOfNobody(t *testing.T) { // W1: such as nobody lets happen, in any order
	r := rand.New(rand.NewPCG(14, 3))
	odd := func() int { return pick(r, 0, 1, 2, 3, 4, 5, 6, 7, -1, api.MinInt, api.MaxInt, int(r.Uint64())) }
	for range 20000 {
		s := at(t, r.IntN(5))
		for range 5 {
			e := api.Event{Do: odd(), Note: api.Note{Code: odd(), Sub: odd()}}
			e.Heard.Out = odd()
			e.Heard.Message = api.Message{Kind: odd(), Open: api.Open{AS: pick(r, odd(), 65001), Hold: odd(), Id: api.Addr{Size: odd()}, Families: []api.Family{{Size: odd(), Safi: odd()}}}}
			s.Do(e)
			if s.State() < idle || s.State() > up {
				t.Fatalf("state %d", s.State())
			}
		}
	}
}
