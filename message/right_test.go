package message_test

import (
	"math"
	"reflect"
	"slices"
	"testing"

	"vinery/api"
	"vinery/update"
)

func TestRightOfEachKind(t *testing.T) { // P11.1
	for _, m := range rights() {
		wantRight(t, true, m)
	}
}

func TestRightKinds(t *testing.T) { // P11.1: no other Kind, whatever is told
	for _, kind := range otherKinds {
		wantOdd(t, api.Message{Kind: kind})
		for _, m := range rights() {
			m.Kind = kind
			wantOdd(t, m)
		}
	}
}

func TestRightOfAnotherKind(t *testing.T) { // P11.1: what one Kind names, told of another one: just a note may be of nothing but zeros, too
	for _, m := range rights() {
		for kind := kindOpen; kind <= kindRefresh; kind++ {
			other := m
			other.Kind = kind
			nothing := m.Kind == kindAlive || equal(m, asUpdate(update.Empty()))
			wantRight(t, kind == m.Kind || nothing && (kind == kindAlive || kind == kindNote), other)
		}
	}
}

// unnamed are the parts of a message that its Kind does not name.
func unnamed(m *api.Message) []reflect.Value {
	parts := map[int]any{kindOpen: &m.Open, kindUpdate: &m.Update, kindNote: &m.Note, kindRefresh: &m.Family}
	var l []reflect.Value
	for kind := kindOpen; kind <= kindRefresh; kind++ {
		if part, there := parts[kind]; there && kind != m.Kind {
			l = append(l, reflect.ValueOf(part).Elem())
		}
	}
	return l
}

func TestRightOfWhatIsNotNamed(t *testing.T) { // P11.1: one thing at a time that is not zero, in each depth
	changes := 0
	for _, m := range rights() {
		for _, empty := range []api.Update{{}, update.Empty()} {
			if m.Kind != kindUpdate {
				m.Update = empty
			}
			wantRight(t, true, m)
			for _, part := range unnamed(&m) {
				eachChange(part, func() {
					changes++
					wantOdd(t, m)
				})
			}
			wantRight(t, true, m)
		}
	}
	if changes < 500 {
		t.Errorf("just %d changes were seen", changes)
	}
}

func TestRightOfEmptyRows(t *testing.T) { // P11.1, W5: rows that are empty are zero, too
	for _, m := range rights() {
		if m.Kind != kindOpen {
			m.Open.Families = []api.Family{}
		}
		if m.Kind != kindNote {
			m.Note.Data = []byte{}
		}
		if m.Kind != kindUpdate {
			m.Update = api.Update{Reach: []api.Table{}, Unreach: []api.Table{}}
			wantRight(t, true, m)
			m.Update.Attrs = api.Attrs{Path: []api.Segment{}, Exts: []api.Ext{}, Med: -1, Pref: -1}
		}
		wantRight(t, true, m)
	}
}

func TestRightUpdateThatIsHalfZero(t *testing.T) { // P11.1: neither without anything, nor update.Empty()
	for _, a := range []api.Attrs{{Med: -1}, {Pref: -1}, {Med: -1, Pref: -1, Origin: 1}} {
		for _, m := range rights() {
			m.Update.Attrs = a
			wantRight(t, m.Kind == kindUpdate && len(m.Update.Reach) > 0, m)
		}
	}
}

func TestRightAS(t *testing.T) { // P11.1: 1 to 2^32 - 1
	for _, as := range []int{1, 2, 255, 256, 23455, 23456, 23457, 65534, 65535, 65536, 65537, 1<<24 - 1, 1 << 24, 1<<31 - 1, 1 << 31, 1<<32 - 2, 1<<32 - 1} {
		o := someOpen()
		o.AS = as
		wantRight(t, true, asOpen(o))
	}
	for _, as := range []int{0, -1, 1 << 32, 1<<32 + 1, 1<<33 - 1, -65000, math.MinInt, math.MinInt + 1, math.MaxInt} {
		o := someOpen()
		o.AS = as
		wantOdd(t, asOpen(o))
	}
}

func TestRightHold(t *testing.T) { // P11.1: 0, or 3 to 65535
	for _, hold := range []int{0, 3, 4, 90, 255, 256, 65534, 65535} {
		o := someOpen()
		o.Hold = hold
		wantRight(t, true, asOpen(o))
	}
	for _, hold := range []int{1, 2, -1, -3, 65536, 65536 + 3, 1 << 32, 1<<32 + 3, math.MinInt, math.MinInt + 3, math.MaxInt} {
		o := someOpen()
		o.Hold = hold
		wantOdd(t, asOpen(o))
	}
}

func TestRightId(t *testing.T) { // P11.1: an address of IPv4, but 0.0.0.0
	for _, id := range []api.Addr{four1, v4(0, 0, 0, 1), v4(1, 0, 0, 0), v4(224, 0, 0, 1), v4(255, 255, 255, 255)} {
		o := someOpen()
		o.Id = id
		wantRight(t, true, asOpen(o))
	}
	for _, id := range []api.Addr{
		{}, {Size: 4}, {Size: 16}, six1, {Size: 16, B: [16]byte{10, 0, 0, 1}},
		{Size: 4, B: [16]byte{10, 0, 0, 1, 1}}, {Size: 4, B: [16]byte{10, 0, 0, 1, 15: 1}}, {Size: 4, B: [16]byte{15: 1}},
		{B: [16]byte{10, 0, 0, 1}}, {Size: 3, B: [16]byte{10}}, {Size: 5, B: [16]byte{10}}, {Size: 17, B: [16]byte{10}},
		{Size: -4, B: [16]byte{10}}, {Size: 1<<32 + 4, B: [16]byte{10}}, {Size: math.MinInt, B: [16]byte{10}}, {Size: math.MaxInt, B: [16]byte{10}},
	} {
		o := someOpen()
		o.Id = id
		wantOdd(t, asOpen(o))
	}
}

func TestRightFamilies(t *testing.T) { // P11.1: known ones, each once, in any order; none to four
	var chosen []api.Family
	var choose func()
	choose = func() {
		o := someOpen()
		o.Families = slices.Clone(chosen)
		wantRight(t, true, asOpen(o))
		for _, f := range families {
			if slices.Contains(chosen, f) { // one more time: also as the fifth
				o.Families = append(slices.Clone(chosen), f)
				wantOdd(t, asOpen(o))
				o.Families = slices.Insert(slices.Clone(chosen), 0, f)
				wantOdd(t, asOpen(o))
				continue
			}
			chosen = append(chosen, f)
			choose()
			chosen = chosen[:len(chosen)-1]
		}
	}
	choose()
}

func TestRightOddFamilies(t *testing.T) { // P11.1: others, alone and in each place among known ones; in a refresh
	for _, f := range families {
		wantRight(t, true, asRefresh(f))
	}
	for _, f := range oddFamilies {
		wantOdd(t, asRefresh(f))
		for n := range len(families) {
			for i := range n + 1 {
				o := someOpen()
				o.Families = slices.Insert(slices.Clone(families[:n]), i, f)
				wantOdd(t, asOpen(o))
			}
		}
	}
}

func TestRightRefreshOfAnOpen(t *testing.T) { // P11.1: or not
	for _, refresh := range []bool{false, true} {
		o := someOpen()
		o.Refresh = refresh
		wantRight(t, true, asOpen(o))
	}
}

func TestRightUpdates(t *testing.T) { // P11.1: as layer 10 tells it
	wantRight(t, true, asUpdate(update.Empty()))
	wantRight(t, true, asUpdate(fullUpdate()))
	wantOdd(t, asUpdate(api.Update{})) // zero, but not right
	odd := fullUpdate()
	odd.Reach = nil
	wantOdd(t, asUpdate(odd))
	odd = fullUpdate()
	odd.Unreach = append(odd.Unreach, odd.Unreach...)
	wantOdd(t, asUpdate(odd))
	odd = fullUpdate()
	odd.Attrs.Origin = 3
	wantOdd(t, asUpdate(odd))
}

func TestRightNotes(t *testing.T) { // P11.1: Code and Sub 0 to 255, so many Data at most
	for _, n := range []int{0, 1, 2, 3, 127, 128, 254, 255} {
		wantRight(t, true, asNote(n, 0))
		wantRight(t, true, asNote(0, n))
		wantRight(t, true, asNote(n, n, 1))
	}
	for _, n := range []int{-1, -255, 256, 257, 511, 1 << 32, 1<<32 + 1, math.MinInt, math.MinInt + 1, math.MaxInt} {
		wantOdd(t, asNote(n, 0))
		wantOdd(t, asNote(0, n))
		wantOdd(t, asNote(n, n, 1))
	}
	for _, n := range []int{0, 1, 255, 256, mostData - 1, mostData} {
		wantRight(t, true, asNote(6, 2, count(n)...))
	}
	for _, n := range []int{mostData + 1, mostData + 2, most, 1 << 16, 1 << 20} {
		wantOdd(t, asNote(6, 2, count(n)...))
	}
}
