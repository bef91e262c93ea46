package session_test

import (
	"math/rand/v2"
	"slices"
	"testing"

	"vinery/api"
	"vinery/message"
	"vinery/session"
)

// side is one of two that are connected, and what was said to it and did not come yet.
type side struct {
	*session.Session
	comes []api.Message
	ups   int
}

// does lets something happen to a side; what it says is on its way to the other one.
func (x *side) does(t *testing.T, e api.Event, to *side) {
	t.Helper()
	told := x.Do(e)
	if told.Close || told.Down {
		t.Fatalf("it falls of %+v: %+v", e, told)
	}
	if told.Up {
		x.ups++
	}
	for _, m := range told.Send {
		to.comes = append(to.comes, carried(t, m))
	}
}

// hears lets the first message come that was said to a side.
func (x *side) hears(t *testing.T, to *side) {
	t.Helper()
	m := x.comes[0]
	x.comes = x.comes[1:]
	x.does(t, hearing(m), to)
}

// carried is a message that went in bytes: each one that is said is right.
func carried(t *testing.T, m api.Message) api.Message {
	t.Helper()
	b, e := message.Bytes(m)
	if e != api.OK || !message.Right(m) {
		t.Fatalf("Bytes(%+v): %v", m, e)
	}
	kind, _, _, _ := message.Head(b)
	got, out, _ := message.Body(kind, b[api.HeadSize:])
	if out != api.OutOk || !message.Same(got, m) {
		t.Fatalf("%+v comes as %+v", m, got)
	}
	return got
}

// anyPair are what two sessions are set up with, for each other.
func anyPair(r *rand.Rand) (api.Peer, api.Peer) {
	p, q := anyPeer(r), anyPeer(r)
	p.Other, q.Other = q.AS, p.AS
	if seldom(r, 2) {
		p.Other, q.Other, q.AS = p.AS, p.AS, p.AS
	}
	p.Id, q.Id = v4(10, 0, 0, byte(r.IntN(10))), v4(10, 0, byte(1+r.IntN(10)), 0)
	p.Hold, q.Hold = pick(r, 0, 3, 4, 5, 30, 65535), pick(r, 0, 3, 4, 5, 30, 65535)
	return p, q
}

// joined are two sessions whose open messages, and all behind them, come in any order: those of one side in theirs.
func joined(t *testing.T, r *rand.Rand, p, q api.Peer) (x, y *side) {
	t.Helper()
	x, y = &side{Session: made(t, p)}, &side{Session: made(t, q)}
	x.Do(event(start))
	y.Do(event(start))
	if seldom(r, 2) {
		x, y = y, x
	}
	x.does(t, event(connected), y)
	for left := 1; left > 0 || len(x.comes)+len(y.comes) > 0; {
		switch n := r.IntN(3); {
		case n == 0 && left > 0:
			y.does(t, event(connected), x)
			left--
		case n == 1 && len(x.comes) > 0:
			x.hears(t, y)
		case n == 2 && len(y.comes) > 0 && left == 0:
			y.hears(t, x)
		}
	}
	return x, y
}

func TestPairs(t *testing.T) { // P14.4: they come up, and agree on HOLD, and on the families, but for their order
	r := rand.New(rand.NewPCG(14, 4))
	for range 3000 {
		p, q := anyPair(r)
		x, y := joined(t, r, p, q)
		if x.State() != up || y.State() != up || x.ups != 1 || y.ups != 1 {
			t.Fatalf("%+v and %+v are in states %d, %d", p, q, x.State(), y.State())
		}
		if x.Hold() != y.Hold() || x.Hold() != min(p.Hold, q.Hold) {
			t.Fatalf("HOLD %d, %d of %d, %d", x.Hold(), y.Hold(), p.Hold, q.Hold)
		}
		if ids := []api.Addr{x.Id(), y.Id()}; !slices.Contains(ids, p.Id) || !slices.Contains(ids, q.Id) {
			t.Fatalf("Ids %v of %v, %v", ids, p.Id, q.Id)
		}
		wantAgreedFamilies(t, x.Families(), y.Families())
		wantAgreedFamilies(t, x.Families(), common(p.Families, q.Families))
	}
}

// common are the families that stand in both rows.
func common(a, b []api.Family) []api.Family {
	return slices.DeleteFunc(slices.Clone(a), func(f api.Family) bool { return !slices.Contains(b, f) })
}

// wantAgreedFamilies wants two rows to have the same ones, each once.
func wantAgreedFamilies(t *testing.T, a, b []api.Family) {
	t.Helper()
	if len(a) != len(b) || len(common(a, b)) != len(a) || len(common(b, a)) != len(b) {
		t.Fatalf("families %v, %v", a, b)
	}
}

func TestPairsStayUp(t *testing.T) { // P14.4, P14.5: as long as what they say comes within a tick
	r := rand.New(rand.NewPCG(14, 5))
	for range 200 {
		p, q := anyPair(r)
		x, y := joined(t, r, p, q)
		for range 300 {
			x.does(t, event(tick), y)
			y.does(t, event(tick), x)
			for len(x.comes)+len(y.comes) > 0 {
				if len(x.comes) > 0 {
					x.hears(t, y)
				}
				if len(y.comes) > 0 {
					y.hears(t, x)
				}
			}
		}
		if x.State() != up || y.State() != up {
			t.Fatalf("states %d, %d", x.State(), y.State())
		}
	}
}
