package session_test

import (
	"slices"
	"testing"

	"vinery/api"
	"vinery/attr"
)

// messages are some of all Kinds, right ones and others.
func messages() []api.Message {
	full := otherOpen()
	full.Update = api.Update{Attrs: attr.None()}
	full.Note.Code, full.Family = 6, fourMulti
	return []api.Message{
		{}, alive, {Kind: kindOpen}, otherOpen(), full,
		{Kind: kindUpdate}, {Kind: kindUpdate, Update: api.Update{Attrs: attr.None(), Unreach: make([]api.Table, 2)}},
		{Kind: kindNote}, note(6, 2), note(5, 3, 1, 2, 3),
		{Kind: kindRefresh}, {Kind: kindRefresh, Family: fourMulti},
		{Kind: 6}, {Kind: -1}, {Kind: 256 + kindAlive}, {Kind: 1<<32 + kindNote}, {Kind: api.MinInt + kindOpen}, {Kind: api.MaxInt},
	}
}

// kinds are those of them all, each once.
func kinds() []int {
	var l []int
	for _, m := range messages() {
		l = append(l, m.Kind)
	}
	slices.Sort(l)
	return slices.Compact(l)
}

func TestNotes(t *testing.T) { // P14.2: of MsgNote it falls, without a Note of its own
	for _, state := range []int{sent, confirm, up} {
		for _, m := range messages() {
			if m.Kind != kindNote {
				continue
			}
			s := at(t, state)
			wantTold(t, s, hearing(m), down(falls(), state == up))
			wantTold(t, s, hearing(m), nothing)
			wantFallen(t, s)
		}
	}
}

func TestUnexpected(t *testing.T) { // P14.2: of all others than its state names it falls with {5 1}, {5 2}, {5 3}
	named := [][]int{sent: {kindOpen}, confirm: {kindAlive}, up: {kindAlive, kindUpdate, kindRefresh}}
	if len(kinds()) != 12 {
		t.Fatalf("kinds: %v", kinds())
	}
	for _, state := range []int{sent, confirm, up} {
		for _, m := range messages() {
			if m.Kind == kindNote || slices.Contains(named[state], m.Kind) {
				continue
			}
			s := at(t, state)
			wantTold(t, s, hearing(m), down(falls(note(5, state-1)), state == up))
			wantTold(t, s, hearing(m), nothing)
			wantFallen(t, s)
		}
	}
}

func TestWhateverOutIs(t *testing.T) { // P14.2: what comes of a message changes nothing here
	for _, state := range states {
		for _, m := range messages() {
			first := at(t, state)
			want := first.Do(hearing(m))
			for _, out := range []int{1, 2, 3, 4, -1, api.MinInt, api.MaxInt} {
				s := at(t, state)
				e := hearing(m)
				e.Heard.Out = out
				wantTold(t, s, e, want)
				wantState(t, s, first.State(), first.Id(), first.Hold(), first.Families()...)
			}
		}
	}
}

func TestUp(t *testing.T) { // P14.2: it is up with the first MsgAlive alone, whatever else stands in that
	full := otherOpen()
	full.Kind, full.Note = kindAlive, api.Note{Code: 6}
	for _, m := range []api.Message{alive, full} {
		s := at(t, confirm)
		wantTold(t, s, hearing(m), api.Told{Up: true})
		wantTold(t, s, hearing(m), nothing)
		wantGoesOn(t, s, up)
	}
}

// opened is how an open of this AS, Id and Hold, and these families is heard.
func opened(as int, id api.Addr, hold int, l ...api.Family) api.Event {
	return hearing(api.Message{Kind: kindOpen, Open: api.Open{AS: as, Id: id, Hold: hold, Families: l}})
}

func TestOpenOfAnotherAS(t *testing.T) { // P14.2: {2 2}, with its own Id too
	for _, as := range append([]int{1, 23456, 65000, 65002, 65536 + 65001, 1<<32 - 1, 1<<32 + 65001, api.MinInt + 65001}, noAS...) {
		for _, id := range []api.Addr{somePeer().Id, other, {}} {
			s := at(t, sent)
			wantTold(t, s, opened(as, id, 30, families...), falls(note(2, 2)))
			wantFallen(t, s)
		}
	}
}

func TestOpenOfItsOwnId(t *testing.T) { // P14.2: {2 3}; any other Id is the other one's
	for _, hold := range []int{0, 30, 90} {
		s := at(t, sent)
		wantTold(t, s, opened(65001, own, hold, families...), falls(note(2, 3)))
		wantFallen(t, s)
	}
	for _, id := range []api.Addr{other, v4(10, 0, 0, 0), v4(11, 0, 0, 1), v4(1, 0, 0, 10), v4(0, 0, 0, 0), {}, {B: own.B}, {Size: 16, B: own.B}, {Size: 4, B: [16]byte{10, 0, 0, 1, 15: 1}}, {Size: api.MinInt + 4, B: own.B}} {
		s := at(t, sent)
		wantTold(t, s, opened(65001, id, 0, families...), says(alive))
		wantState(t, s, confirm, id, 0, somePeer().Families...)
	}
}

func TestOpenOfTheSameAS(t *testing.T) { // P14.2: that Other is its own AS is no fault
	s := made(t, with(func(p *api.Peer) { p.Other = p.AS }))
	s.Do(event(start))
	s.Do(event(connected))
	wantTold(t, s, opened(65001, other, 0), falls(note(2, 2)))
	wantWaits(t, s, toIdle, dials)
	s.Do(event(connected))
	wantTold(t, s, opened(65000, other, 0), says(alive))
}

func TestAgreedFamilies(t *testing.T) { // P14.2, P14.1: those of its own that the other one has too, in its own order: of all rows of both
	all := rows(families)
	for i, l := range all {
		s := made(t, with(func(p *api.Peer) { p.Families = l }))
		s.Do(event(start))
		for j, m := range all {
			if (i+j)%3 > 0 {
				continue
			}
			s.Do(event(connected))
			wantTold(t, s, opened(65001, other, 9, m...), says(alive))
			var want []api.Family
			for _, f := range l {
				for _, g := range m {
					if f == g {
						want = append(want, f)
					}
				}
			}
			wantState(t, s, confirm, other, 9, want...)
			wantTold(t, s, hearing(alive), api.Told{Up: true})
			wantState(t, s, up, other, 9, want...)
			wantTold(t, s, hearing(note(6, 2)), down(falls(), true))
			wantBare(t, s, idle)
			wantTold(t, s, event(start), dials)
		}
	}
}

func TestFamiliesOfNobody(t *testing.T) { // P14.2: what the other one has of others, or twice, changes nothing
	s := at(t, sent)
	l := []api.Family{{}, {Size: 4, Safi: 1}, fourPrivate, {Size: 5, Safi: 4}, fourPrivate, sixPrivate, {Size: -4, Safi: 5}, fourPrivate}
	wantTold(t, s, opened(65001, other, 30, l...), says(alive))
	wantState(t, s, confirm, other, 30, both...)
}

func TestRefreshOfTheOther(t *testing.T) { // P14.2: whether the other one can do so changes nothing
	o := otherOpen()
	o.Open.Refresh = true
	s := at(t, sent)
	wantTold(t, s, hearing(o), says(alive))
	wantGoesOn(t, s, confirm)
}
