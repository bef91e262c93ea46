package session_test

import (
	"slices"
	"testing"

	"vinery/api"
	"vinery/session"
)

// with is somePeer, but for a change.
func with(change func(*api.Peer)) api.Peer {
	p := somePeer()
	change(&p)
	return p
}

// wantRight wants sessions to be set up so: each is idle, nothing runs, nothing is agreed, and its open tells what it was set up with.
func wantRight(t *testing.T, p api.Peer) {
	t.Helper()
	s := made(t, p)
	wantBare(t, s, idle)
	wantQuiet(t, s, 20)
	wantTold(t, s, event(start), dials)
	wantTold(t, s, event(connected), says(api.Message{Kind: kindOpen, Open: api.Open{AS: p.AS, Hold: p.Hold, Id: p.Id, Families: p.Families, Refresh: true}}))
	wantBare(t, s, sent)
	o := otherOpen()
	o.Open.AS, o.Open.Id = p.Other, v4(9, 9, 9, 9)
	wantTold(t, s, hearing(o), says(alive))
}

// wantOdd wants no session to be set up so.
func wantOdd(t *testing.T, p api.Peer) {
	t.Helper()
	if s, e := session.New(p); s != nil || e != errArg {
		t.Errorf("New(%+v): %v, %v, want ErrArg", p, s, e)
	}
}

// noAS are numbers that are none of an AS.
var noAS = []int{0, -1, -2, -65000, -1 << 31, -1 << 32, -1<<32 + 1, 1 << 32, 1<<32 + 1, 1<<32 + 65000, 1 << 62, api.MinInt, api.MinInt + 1, api.MaxInt}

func TestNewAS(t *testing.T) { // P14.1: AS and Other are 1 to 2^32 - 1
	for _, as := range []int{1, 2, 23456, 65535, 65536, 1<<31 - 1, 1 << 31, 1<<32 - 2, 1<<32 - 1} {
		wantRight(t, with(func(p *api.Peer) { p.AS = as }))
		wantRight(t, with(func(p *api.Peer) { p.Other = as }))
		wantRight(t, with(func(p *api.Peer) { p.AS, p.Other = as, as }))
	}
	for _, as := range noAS {
		wantOdd(t, with(func(p *api.Peer) { p.AS = as }))
		wantOdd(t, with(func(p *api.Peer) { p.Other = as }))
		wantOdd(t, with(func(p *api.Peer) { p.AS, p.Other = as, as }))
	}
}

func TestNewHold(t *testing.T) { // P14.1: 0, or 3 to 65535
	for _, hold := range []int{0, 3, 4, 5, 6, 255, 256, 65534, 65535} {
		wantRight(t, with(func(p *api.Peer) { p.Hold = hold }))
	}
	for _, hold := range []int{1, 2, -1, -2, -3, -90, 65536, 65537, 65536 + 90, 1 << 32, 1<<32 + 90, api.MinInt, api.MinInt + 90, api.MaxInt} {
		wantOdd(t, with(func(p *api.Peer) { p.Hold = hold }))
	}
}

func TestNewId(t *testing.T) { // P14.1: an address of IPv4, not 0.0.0.0
	for _, id := range []api.Addr{v4(0, 0, 0, 1), v4(1, 0, 0, 0), v4(10, 0, 0, 2), v4(127, 0, 0, 1), v4(224, 0, 0, 1), v4(255, 255, 255, 255)} {
		wantRight(t, with(func(p *api.Peer) { p.Id = id }))
	}
	b := own.B
	for _, id := range []api.Addr{
		{}, v4(0, 0, 0, 0), {Size: 16}, {Size: 16, B: [16]byte{32, 1, 13, 184}}, {B: b}, {Size: 1, B: b}, {Size: 3, B: b}, {Size: 5, B: b}, {Size: 16, B: b}, {Size: 17, B: b}, {Size: -4, B: b}, {Size: 256 + 4, B: b}, {Size: 1<<32 + 4, B: b}, {Size: api.MinInt + 4, B: b}, {Size: api.MaxInt, B: b},
		{Size: 4, B: [16]byte{10, 0, 0, 1, 1}}, {Size: 4, B: [16]byte{10, 0, 0, 1, 15: 1}}, {Size: 4, B: [16]byte{15: 1}},
	} {
		wantOdd(t, with(func(p *api.Peer) { p.Id = id }))
	}
}

// rows are all rows of some of the four families, each once, in each order.
func rows(left []api.Family) [][]api.Family {
	out := [][]api.Family{nil}
	for i, f := range left {
		for _, l := range rows(slices.Delete(slices.Clone(left), i, i+1)) {
			out = append(out, append([]api.Family{f}, l...))
		}
	}
	return out
}

func TestNewFamilies(t *testing.T) { // P14.1: known ones, each once
	all := rows(families)
	if len(all) != 1+4+12+24+24 {
		t.Fatalf("%d rows", len(all))
	}
	for _, l := range all {
		wantRight(t, with(func(p *api.Peer) { p.Families = l }))
		for i, f := range l {
			for j := range len(l) + 1 {
				wantOdd(t, with(func(p *api.Peer) { p.Families = slices.Insert(slices.Clone(l), j, f) }))
			}
			for _, odd := range []api.Family{{}, {Size: 4}, {Safi: 5}, {Size: 5, Safi: 4}, {Size: 6, Safi: 5}, {Size: 4, Safi: 1}, {Size: 16, Safi: 4}, {Size: 4, Safi: 127}, {Size: 16, Safi: 129}, {Size: -4, Safi: 5}, {Size: 4, Safi: 256 + 5}, {Size: 256 + 4, Safi: 5}, {Size: 1<<32 + 4, Safi: 5}, {Size: 4, Safi: 1<<32 + 128}, {Size: api.MinInt + 4, Safi: 5}} {
				wantOdd(t, with(func(p *api.Peer) { p.Families = slices.Insert(slices.Clone(l), i, odd) }))
			}
		}
	}
	wantRight(t, with(func(p *api.Peer) { p.Families = []api.Family{} }))
	wantOdd(t, with(func(p *api.Peer) { p.Families = make([]api.Family, 1<<20) }))
	wantOdd(t, with(func(p *api.Peer) { p.Families = slices.Repeat(families, 1<<18) }))
	wantOdd(t, api.Peer{})
}

func TestSessionsAreApart(t *testing.T) { // P14.1: what happens to one changes nothing of another one, set up alike
	p := somePeer()
	var l []*session.Session
	for range states {
		l = append(l, made(t, p))
	}
	for i, e := range wayUp() {
		for _, s := range l[i+1:] {
			s.Do(e)
		}
	}
	for state, s := range l {
		wantGoesOn(t, s, state)
	}
}
