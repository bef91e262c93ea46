package timer_test

import (
	"slices"
	"strings"
	"testing"
	"unsafe"

	"vinery/timer"
)

func TestAnswersAreNew(t *testing.T) { // P13.2, W6: what is told of a tick, and its spare room, is the caller's
	x := timer.New()
	wantStart(t, x, 1, "a", "b", "c")
	wantStart(t, x, 2, "d", "e")
	wantStart(t, x, 3, "f")
	var told [][]string
	for range 3 {
		l := x.Tick()
		told = append(told, slices.Clone(l))
		spoilt := l[:cap(l)]
		for i := range spoilt {
			spoilt[i] = "spoilt"
		}
	}
	for i, want := range [][]string{{"a", "b", "c"}, {"d", "e"}, {"f"}} {
		if !slices.Equal(told[i], want) {
			t.Errorf("Tick: %q, want %q", told[i], want)
		}
	}
	wantNone(t, x)
}

func TestAnswersStay(t *testing.T) { // W6: what was told does not change later
	x := timer.New()
	wantStart(t, x, 1, "a", "b")
	first := x.Tick()
	wantStart(t, x, 1, "c", "d", "e")
	wantTick(t, x, "c", "d", "e")
	x.Clear()
	if !slices.Equal(first, []string{"a", "b"}) {
		t.Errorf("what was told is now %q", first)
	}
}

func TestNamesAreCopies(t *testing.T) { // W6: a name that is cut of a text does not keep the text: neither at first, nor where it is started again
	text := strings.Repeat("name", 1000)
	for _, again := range []int{0, 1, 2} {
		x := timer.New()
		for range again {
			wantStart(t, x, 1, "name")
		}
		name := text[4:8]
		wantStart(t, x, 1, name)
		if l := x.Tick(); len(l) != 1 || l[0] != "name" || unsafe.StringData(l[0]) == unsafe.StringData(name) {
			t.Errorf("Tick: %q, or the memory that was handed in", l)
		}
	}
}
