package session_test

import (
	"runtime"
	"slices"
	"testing"

	"vinery/api"
	"vinery/session"
)

// spare is how much room lies behind a row's end.
const spare = 3

// roomy is a row in new memory, with spare room behind it, which is not zero.
func roomy[T any](l []T, behind T) []T {
	out := append(make([]T, 0, len(l)+spare), l...)
	for range spare {
		out = append(out, behind)
	}
	return out[:len(l)]
}

// spoilRow writes all over a row, its spare room too.
func spoilRow[T any](l []T, with T) {
	l = l[:cap(l)]
	for i := range l {
		l[i] = with
	}
}

func spoilFamilies(l []api.Family) { spoilRow(l, api.Family{Size: 99, Safi: 99}) }

// spoil writes all over what was told, in all depths.
func spoil(told api.Told) {
	for _, m := range told.Send[:cap(told.Send)] {
		spoilFamilies(m.Open.Families)
		spoilRow(m.Note.Data, 99)
	}
	spoilRow(told.Send, note(99, 99, 99))
}

// whole is a row and its spare room, as a text.
func whole[T any](l []T) string { return text(len(l)) + text(l[:cap(l)]) }

// roomyPeer is somePeer, whose row has spare room: of a family that it does not have.
func roomyPeer() api.Peer {
	return with(func(p *api.Peer) { p.Families = roomy(p.Families, sixMulti) })
}

// roomyOpen is otherOpen likewise.
func roomyOpen() api.Message {
	o := otherOpen()
	o.Open.Families = roomy(o.Open.Families, fourMulti)
	return o
}

func TestArgumentsAreLeft(t *testing.T) { // P14.3, W6: what is handed in is not changed, its spare room neither: whatever comes then, whatever is done with what is told
	p, o, n := roomyPeer(), roomyOpen(), api.Note{Code: 1, Sub: 2, Data: roomy([]byte{7, 8}, 9)}
	was := []string{whole(p.Families), whole(o.Open.Families), whole(n.Data)}
	s := made(t, p)
	for range 3 {
		for _, e := range []api.Event{event(start), event(connected), hearing(o), hearing(alive), brokenBy(n)} {
			spoil(s.Do(e))
			spoilFamilies(s.Families())
		}
	}
	if now := []string{whole(p.Families), whole(o.Open.Families), whole(n.Data)}; !slices.Equal(now, was) {
		t.Errorf("changed from %v to %v", was, now)
	}
}

func TestArgumentsAreNotKept(t *testing.T) { // P14.3, W6: writing on what was handed in changes nothing of what comes, or came
	p, o, n := roomyPeer(), roomyOpen(), api.Note{Code: 1, Sub: 2, Data: roomy([]byte{7, 8}, 9)}
	s := made(t, p)
	spoilFamilies(p.Families)
	s.Do(event(start))
	wantTold(t, s, event(connected), says(ownOpen()))
	s.Do(hearing(o))
	spoilFamilies(o.Open.Families)
	wantState(t, s, confirm, other, 30, both...)
	told := s.Do(brokenBy(n))
	spoilRow(n.Data, 99)
	if text(told) != text(falls(note(1, 2, 7, 8))) {
		t.Errorf("what was told is now %+v", told)
	}
	wantFallen(t, s)
}

func TestAnswersAreNew(t *testing.T) { // P14.3, W6: writing on what is answered changes nothing of what comes, or came: in all depths
	s := made(t, somePeer())
	for range 3 {
		var all []api.Told
		for _, e := range []api.Event{event(start), event(connected), hearing(otherOpen()), hearing(alive)} {
			all = append(all, s.Do(e))
		}
		first, second := s.Families(), s.Families()
		spoilFamilies(first)
		if !slices.Equal(second, both) {
			t.Fatalf("families %v, want %v", second, both)
		}
		wantState(t, s, up, other, 30, both...)
		if text(all[1]) != text(says(ownOpen())) {
			t.Fatalf("what was told is now %+v", all[1])
		}
		for _, told := range all {
			spoil(told)
		}
		wantState(t, s, up, other, 30, both...)
		told := s.Do(brokenBy(api.Note{Code: 1, Data: []byte{7}}))
		if !slices.Equal(second, both) || text(told) != text(down(falls(note(1, 0, 7)), true)) {
			t.Fatalf("families are now %v; %+v", second, told)
		}
		spoil(told)
		wantBare(t, s, idle)
	}
}

func TestAnswersStay(t *testing.T) { // P14.3: whatever happens behind them
	s := at(t, idle)
	var all []api.Told
	var was []string
	for range 50 {
		for _, e := range append(wayUp(), event(tick), event(tick), brokenBy(api.Note{Code: 3, Data: []byte{1, 2}})) {
			told := s.Do(e)
			all, was = append(all, told), append(was, text(told))
		}
	}
	for i, told := range all {
		if text(told) != was[i] {
			t.Fatalf("%s is now %+v", was[i], told)
		}
	}
}

func TestMemoryOfEventsGoes(t *testing.T) { // P14.3: no session keeps what it heard
	const n, size = 200, 1 << 20
	before := used()
	var kept []*session.Session
	for i := range n {
		s := at(t, sent)
		o := otherOpen()
		o.Open.Families = make([]api.Family, size/16)
		o.Note.Data = make([]byte, size)
		s.Do(hearing(o))
		u := alive
		u.Update.Reach = make([]api.Table, size/100)
		s.Do(hearing(u))
		if i%2 > 0 {
			s.Do(brokenBy(api.Note{Code: 1, Data: make([]byte, size)}))
		}
		kept = append(kept, s)
	}
	if now := used(); now > before+n*size/20 {
		t.Errorf("%d sessions keep %d bytes", n, now-before)
	}
	runtime.KeepAlive(kept)
}

// used is how many bytes of memory are.
func used() uint64 {
	runtime.GC()
	var m runtime.MemStats
	runtime.ReadMemStats(&m)
	return m.HeapAlloc
}
