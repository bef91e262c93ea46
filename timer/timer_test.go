package timer_test

import (
	"math"
	"slices"
	"strconv"
	"strings"
	"testing"

	"vinery/api"
	"vinery/timer"
)

var (
	_ func() *timer.Timers                                    = timer.New
	_ func(_ *timer.Timers, name string, ticks int) api.Errno = (*timer.Timers).Start
	_ func(_ *timer.Timers, name string) bool                 = (*timer.Timers).Stop
	_ func(_ *timer.Timers, name string) (int, bool)          = (*timer.Timers).Left
	_ func(*timer.Timers) []string                            = (*timer.Timers).Tick
	_ func(*timer.Timers) (int, bool)                         = (*timer.Timers).Next
	_ func(*timer.Timers)                                     = (*timer.Timers).Clear
)

// The limit, and the errors, as the document's numbers; below: package api tells the same.
const (
	most    = 32
	errArg  = 1
	errFull = 6
)

var (
	_ [0]struct{} = [api.MaxTimers - most]struct{}{}
	_ [0]struct{} = [api.ErrArg - errArg + api.ErrFull - errFull]struct{}{}
)

// noTicks are numbers that no timer is started with.
var noTicks = []int{0, -1, -2, -32, -1 << 31, -1 << 32, -1<<32 + 1, -1 << 62, math.MinInt, math.MinInt + 1}

// greatTicks are numbers beyond those of fewer bits, up to the greatest one.
var greatTicks = []int{127, 128, 255, 256, 1<<15 - 1, 1 << 15, 1<<16 - 1, 1 << 16, 1<<31 - 1, 1 << 31, 1<<32 - 1, 1 << 32, 1<<32 + 1, 1 << 53, 1<<53 + 1, 1 << 62, math.MaxInt - 1, math.MaxInt}

// oddNames are names that are almost alike, and such as could be taken for none.
var oddNames = []string{"", " ", "a", "A", "a ", " a", "aa", "a\x00", "\x00a", "\x00", "\x00\x00", "é", "e\u0301", "\xff", "\xfe", "\uFFFD", "\xed\xa0\x80", "10", "9", "09", strings.Repeat("a", 1<<16), strings.Repeat("a", 1<<16) + "b"}

// wantStart wants timers to be started.
func wantStart(t *testing.T, x *timer.Timers, ticks int, names ...string) {
	t.Helper()
	for _, name := range names {
		if e := x.Start(name, ticks); e != api.OK {
			t.Fatalf("Start(%q, %d): %v", name, ticks, e)
		}
	}
}

// wantNoStart wants timers not to be started, with this error.
func wantNoStart(t *testing.T, x *timer.Timers, want api.Errno, ticks int, names ...string) {
	t.Helper()
	for _, name := range names {
		if e := x.Start(name, ticks); e != want {
			t.Fatalf("Start(%q, %d): %v, want %v", name, ticks, e, want)
		}
	}
}

// wantStop wants timers to have been there or not.
func wantStop(t *testing.T, x *timer.Timers, was bool, names ...string) {
	t.Helper()
	for _, name := range names {
		if x.Stop(name) != was {
			t.Fatalf("Stop(%q): want %v", name, was)
		}
	}
}

// wantLeft wants timers to have so many ticks left.
func wantLeft(t *testing.T, x *timer.Timers, want int, names ...string) {
	t.Helper()
	for _, name := range names {
		if n, is := x.Left(name); n != want || !is {
			t.Fatalf("Left(%q): %d, %v, want %d", name, n, is, want)
		}
	}
}

// wantGone wants these timers not to be there.
func wantGone(t *testing.T, x *timer.Timers, names ...string) {
	t.Helper()
	for _, name := range names {
		if n, is := x.Left(name); n != 0 || is {
			t.Fatalf("Left(%q): %d, %v, want none", name, n, is)
		}
	}
}

// wantNext wants the first one to come with this tick.
func wantNext(t *testing.T, x *timer.Timers, want int) {
	t.Helper()
	if n, is := x.Next(); n != want || !is {
		t.Fatalf("Next: %d, %v, want %d", n, is, want)
	}
}

// wantNone wants none to be there: none that could come, and all the room.
func wantNone(t *testing.T, x *timer.Timers) {
	t.Helper()
	if n, is := x.Next(); n != 0 || is {
		t.Fatalf("Next: %d, %v, want none", n, is)
	}
	wantTick(t, x)
	wantRoom(t, x, most)
}

// wantTick wants the next tick to be the last one of these, in this order.
func wantTick(t *testing.T, x *timer.Timers, want ...string) {
	t.Helper()
	if got := x.Tick(); !slices.Equal(got, want) {
		t.Fatalf("Tick: %q, want %q", got, want)
	}
}

// wantRoom wants a set to have room for so many more; it is left as it was.
func wantRoom(t *testing.T, x *timer.Timers, want int) {
	t.Helper()
	more := numbered("room ", most+1)
	got := 0
	for x.Start(more[got], 1) == api.OK {
		got++
	}
	if got != want {
		t.Fatalf("there is room for %d more, want %d", got, want)
	}
	wantStop(t, x, true, more[:got]...)
}

// numbered are so many names.
func numbered(what string, n int) []string {
	var out []string
	for i := range n {
		out = append(out, what+strconv.Itoa(i))
	}
	return out
}

// full is a set without any room, and whose timers it has: each has so many ticks.
func full(t *testing.T, ticks int) (*timer.Timers, []string) {
	t.Helper()
	x, names := timer.New(), numbered("t", most)
	wantStart(t, x, ticks, names...)
	return x, names
}

func TestNew(t *testing.T) { // P13.1: no timers
	x := timer.New()
	if x == nil {
		t.Fatal("New: nil")
	}
	wantGone(t, x, oddNames...)
	wantStop(t, x, false, oddNames...)
	wantNone(t, x)
	wantNone(t, timer.New())
}

func TestStart(t *testing.T) { // P13.1: so many ticks left
	x := timer.New()
	wantStart(t, x, 1, "a")
	wantLeft(t, x, 1, "a")
	wantStart(t, x, 2, "b")
	wantStart(t, x, 240, "c")
	wantLeft(t, x, 1, "a")
	wantLeft(t, x, 2, "b")
	wantLeft(t, x, 240, "c")
	wantRoom(t, x, most-3)
	for _, n := range greatTicks {
		wantStart(t, x, n, "d")
		wantLeft(t, x, n, "d")
	}
	wantRoom(t, x, most-4)
}

func TestStartAgain(t *testing.T) { // P13.1: whatever it had: fewer, more, as many
	x := timer.New()
	for _, had := range []int{1, 2, 3, 50, 1 << 40, math.MaxInt} {
		for _, gets := range []int{1, 2, 3, 50, 1 << 40, math.MaxInt} {
			wantStart(t, x, had, "a")
			wantLeft(t, x, had, "a")
			wantStart(t, x, gets, "a")
			wantLeft(t, x, gets, "a")
			wantNext(t, x, gets)
			wantRoom(t, x, most-1)
		}
	}
	wantStart(t, x, 3, "a")
	wantTick(t, x)
	wantTick(t, x)
	wantLeft(t, x, 1, "a")
	wantStart(t, x, 3, "a")
	wantLeft(t, x, 3, "a")
	wantTick(t, x)
	wantTick(t, x)
	wantTick(t, x, "a")
	wantStart(t, x, 1, "a") // one that came
	wantTick(t, x, "a")
	wantNone(t, x)
}

func TestStartOfNoTicks(t *testing.T) { // P13.1: ErrArg, and nothing changes (W3), of one that is there and of one that is not
	x := timer.New()
	for _, n := range noTicks {
		wantNoStart(t, x, api.ErrArg, n, "a", "")
		wantGone(t, x, "a", "")
	}
	wantNone(t, x)
	wantStart(t, x, 5, "a")
	for _, n := range noTicks {
		wantNoStart(t, x, api.ErrArg, n, "a", "")
		wantLeft(t, x, 5, "a")
		wantGone(t, x, "")
		wantNext(t, x, 5)
	}
	wantRoom(t, x, most-1)
}

func TestStartOfTooMany(t *testing.T) { // P13.1: ErrFull beyond MaxTimers, and nothing changes (W3)
	x, names := full(t, 7)
	for _, name := range append([]string{"one more"}, oddNames...) {
		wantNoStart(t, x, api.ErrFull, 1, name)
		wantNoStart(t, x, api.ErrFull, math.MaxInt, name)
		wantGone(t, x, name)
		wantStop(t, x, false, name)
	}
	wantLeft(t, x, 7, names...)
	wantNext(t, x, 7)
	wantNoStart(t, x, api.ErrFull, 1, "one more")
	for range 6 {
		wantTick(t, x)
	}
	wantNoStart(t, x, api.ErrFull, 1, "one more")
}

func TestStartAgainOfFull(t *testing.T) { // P13.1: those that are there have their room
	x, names := full(t, 7)
	for i, name := range names {
		wantStart(t, x, 100+i, name)
		wantLeft(t, x, 100+i, name)
	}
	wantNoStart(t, x, api.ErrFull, 1, "one more")
	wantNext(t, x, 100)
}

func TestErrorsOrder(t *testing.T) { // P13.1, W4: ErrArg ahead of ErrFull; a full set tells it of names that are there too
	x, names := full(t, 7)
	for _, n := range noTicks {
		wantNoStart(t, x, api.ErrArg, n, "one more", names[0], names[most-1])
	}
	wantLeft(t, x, 7, names...)
}

func TestRoomAgain(t *testing.T) { // P13.1, P13.2: one that was stopped, or came, has left its room
	x, names := full(t, 2)
	wantStop(t, x, true, names[4])
	wantRoom(t, x, 1)
	wantStart(t, x, 1, "other")
	wantNoStart(t, x, api.ErrFull, 1, names[4])
	wantTick(t, x, "other")
	wantRoom(t, x, 1)
	wantStart(t, x, 3, names[4])
	wantNoStart(t, x, api.ErrFull, 1, "other")
	wantTick(t, x, sorted(slices.Delete(slices.Clone(names), 4, 5))...)
	wantRoom(t, x, most-1)
	wantStart(t, x, 1, names[:4]...)
	wantStart(t, x, 1, names[5:]...)
	wantNoStart(t, x, api.ErrFull, 1, "other")
	x.Clear()
	wantRoom(t, x, most)
}

// sorted are names, rising.
func sorted(l []string) []string { return slices.Sorted(slices.Values(l)) }

func TestStop(t *testing.T) { // P13.1: was there one? There is none now
	x := timer.New()
	wantStop(t, x, false, "a", "")
	wantStart(t, x, 1, "a", "b")
	wantStop(t, x, false, "", "A", "aa", "a\x00", "c")
	wantStop(t, x, true, "a")
	wantStop(t, x, false, "a", "a")
	wantGone(t, x, "a")
	wantLeft(t, x, 1, "b")
	wantTick(t, x, "b")
	wantStop(t, x, false, "a", "b") // one that came is no more
	wantStart(t, x, 2, "a")
	wantTick(t, x)
	wantStop(t, x, true, "a")
	wantTick(t, x)
	wantNone(t, x)
}

func TestNames(t *testing.T) { // P13.1, P13.4: names that are almost alike are of several timers
	x := timer.New()
	for i, name := range oddNames {
		wantStart(t, x, 100+i, name)
	}
	for i, name := range oddNames {
		wantLeft(t, x, 100+i, name)
	}
	wantRoom(t, x, most-len(oddNames))
	for i, name := range oddNames {
		wantStop(t, x, true, name)
		wantGone(t, x, oddNames[:i+1]...)
		for j, other := range oddNames[i+1:] {
			wantLeft(t, x, 100+i+1+j, other)
		}
	}
	wantNone(t, x)
}

func TestAskingChangesNothing(t *testing.T) { // P13.1, P13.2: Left and Next start none, and no tick goes by
	x := timer.New()
	wantGone(t, x, oddNames...)
	wantNone(t, x)
	wantStart(t, x, 2, "a")
	for range 5 {
		wantLeft(t, x, 2, "a")
		wantNext(t, x, 2)
		wantGone(t, x, "b")
	}
	wantTick(t, x)
	wantTick(t, x, "a")
}

func TestSetsApart(t *testing.T) { // P13.1, W2: two sets know nothing of each other
	x, y := timer.New(), timer.New()
	wantStart(t, x, 1, "a")
	wantGone(t, y, "a")
	wantNone(t, y)
	wantStart(t, y, 3, "a", "b")
	wantTick(t, x, "a")
	wantLeft(t, y, 3, "a", "b")
	x.Clear()
	wantStop(t, x, false, "b")
	wantLeft(t, y, 3, "b")
	wantRoom(t, y, most-2)
	wantNone(t, x)
}
