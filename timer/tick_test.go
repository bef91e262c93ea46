package timer_test

import (
	"math"
	"slices"
	"strings"
	"testing"

	"vinery/timer"
)

func TestTick(t *testing.T) { // P13.2: one tick less each; those that have none now are told, and gone
	x := timer.New()
	wantTick(t, x)
	wantStart(t, x, 1, "b")
	wantStart(t, x, 3, "c")
	wantStart(t, x, 1, "a")
	wantStart(t, x, 2, "d")
	wantTick(t, x, "a", "b")
	wantGone(t, x, "a", "b")
	wantLeft(t, x, 2, "c")
	wantLeft(t, x, 1, "d")
	wantRoom(t, x, most-2)
	wantTick(t, x, "d")
	wantTick(t, x, "c")
	wantTick(t, x)
	wantNone(t, x)
}

func TestTickRising(t *testing.T) { // P13.2, W7: by their bytes, in whatever order they were started
	want := []string{"", "\x00", "\x00\x00", "\x00a", " ", " a", "09", "10", "9", "A", "B", "a", "a\x00", "a ", "aa", "b", "e\u0301", "é", "\xed\xa0\x80", "\uFFFD", "\U0001F347", "\xfe", "\xff"}
	names := slices.Clone(want)
	for turn := range 3 * len(names) {
		x := timer.New()
		wantStart(t, x, 1, names...)
		if turn%2 == 1 { // again, the other way round
			slices.Reverse(names)
			wantStart(t, x, 1, names...)
		}
		wantTick(t, x, want...)
		wantNone(t, x)
		names = append(names[1:], names[0])
	}
}

func TestTickOfFull(t *testing.T) { // P13.2, W2: all of them at once, the same each time
	for range 50 {
		x, names := full(t, 3)
		wantTick(t, x)
		wantTick(t, x)
		wantTick(t, x, sorted(names)...)
		wantNone(t, x)
	}
}

func TestTickByTick(t *testing.T) { // P13.2, P13.3: a full set, one coming each tick
	x, names := timer.New(), numbered("", most)
	for i, name := range names {
		wantStart(t, x, i+1, name)
	}
	for i, name := range names {
		wantNext(t, x, 1)
		for j, other := range names[i:] {
			wantLeft(t, x, j+1, other)
		}
		wantRoom(t, x, i)
		wantTick(t, x, name)
		wantGone(t, x, names[:i+1]...)
	}
	wantNone(t, x)
}

func TestTickOfGreat(t *testing.T) { // P13.2, W7: of numbers beyond those of fewer bits
	x := timer.New()
	for _, n := range greatTicks {
		wantStart(t, x, n, "a")
		wantTick(t, x)
		wantLeft(t, x, n-1, "a")
		wantTick(t, x)
		wantLeft(t, x, n-2, "a")
		wantNext(t, x, n-2)
	}
	wantRoom(t, x, most-1)
}

func TestNext(t *testing.T) { // P13.2: the least number of ticks, wherever it stands
	x := timer.New()
	wantStart(t, x, math.MaxInt, "a")
	wantNext(t, x, math.MaxInt)
	for _, c := range []struct {
		name        string
		ticks, next int
	}{{"b", 9, 9}, {"c", 8, 8}, {"d", 10, 8}, {"", 1 << 33, 8}, {"a", 9, 8}, {"c", 12, 9}, {"e", 1, 1}, {"f", 1, 1}, {"e", 2, 1}, {"f", 5, 2}} {
		wantStart(t, x, c.ticks, c.name)
		wantNext(t, x, c.next)
	}
	wantStop(t, x, true, "e")
	wantNext(t, x, 5)
	wantTick(t, x)
	wantNext(t, x, 4)
	wantStop(t, x, true, "f")
	wantNext(t, x, 8)
	x.Clear()
	wantNone(t, x)
}

func TestNextTellsTick(t *testing.T) { // P13.2: nobody comes ahead of it, somebody does with it
	for n := 1; n < 40; n++ {
		x := timer.New()
		wantStart(t, x, n+1, "b")
		wantStart(t, x, n, "a")
		wantStart(t, x, n+40, "c")
		next, _ := x.Next()
		for range next - 1 {
			wantTick(t, x)
		}
		wantTick(t, x, "a")
		wantNext(t, x, 1)
	}
}

func TestClear(t *testing.T) { // P13.2: there are none
	x := timer.New()
	x.Clear()
	wantNone(t, x)
	for range 3 {
		names := numbered("t", most)
		wantStart(t, x, 1, names[:most/2]...)
		wantStart(t, x, 2, names[most/2:]...)
		x.Clear()
		wantGone(t, x, names...)
		wantStop(t, x, false, names...)
		wantNone(t, x)
		wantTick(t, x)
		wantStart(t, x, 2, "a")
		wantTick(t, x)
		x.Clear()
		x.Clear()
		wantNone(t, x)
	}
	wantStart(t, x, 1, "a")
	wantTick(t, x, "a")
}

func TestJustItsTick(t *testing.T) { // P13.3: not a tick sooner or later, and once; others come meanwhile
	for n := 1; n <= 300; n++ {
		x := timer.New()
		wantStart(t, x, n, "a")
		for i := 1; i <= n+3; i++ {
			wantStart(t, x, 1, "b")
			if i == n {
				wantTick(t, x, "a", "b")
				wantGone(t, x, "a")
				continue
			}
			wantTick(t, x, "b")
		}
	}
}

func TestFromItsLastStart(t *testing.T) { // P13.3: one that is started again comes but with the tick told then; one that is stopped with none
	for was := 1; was < 12; was++ {
		for at := range was {
			for n := 1; n < 12; n++ {
				x := timer.New()
				wantStart(t, x, was, "a", "stopped")
				for range at {
					wantTick(t, x)
				}
				wantStart(t, x, n, "a")
				wantStop(t, x, true, "stopped")
				for range n - 1 {
					wantTick(t, x)
				}
				wantTick(t, x, "a")
				for range was {
					wantTick(t, x)
				}
			}
		}
	}
}

func TestOthersChangeNothing(t *testing.T) { // P13.4: whatever is done with those of other names
	others := []string{"", "A", "aa", "a\x00", "b"}
	x, alone := timer.New(), timer.New()
	for i := range 600 {
		other := others[i%len(others)]
		switch i % 7 {
		case 0, 3:
			wantStart(t, x, 1+i%4, other)
		case 1:
			x.Stop(other)
		case 2:
			wantNoStart(t, x, errArg, -i, other)
		case 4:
			x.Left(other)
			x.Next()
		case 5:
			wantStart(t, x, 1+i%11, "a")
			wantStart(t, alone, 1+i%11, "a")
		}
		n, is := x.Left("a")
		if m, alike := alone.Left("a"); n != m || is != alike {
			t.Fatalf("Left beside others: %d, %v, want %d, %v", n, is, m, alike)
		}
		if i%3 == 0 {
			l := slices.DeleteFunc(x.Tick(), func(name string) bool { return name != "a" })
			wantTick(t, alone, l...)
		}
	}
}

func TestOthersStoppedAtTick(t *testing.T) { // P13.4: one is left as it is where all others come, or are stopped
	x := timer.New()
	names := numbered("t", most-1)
	wantStart(t, x, 5, "a")
	wantStart(t, x, 1, names...)
	wantTick(t, x, sorted(names)...)
	wantLeft(t, x, 4, "a")
	wantStart(t, x, 1, names...)
	wantStop(t, x, true, names...)
	wantLeft(t, x, 4, "a")
	wantTick(t, x)
	wantTick(t, x)
	wantTick(t, x)
	wantTick(t, x, "a")
}

func TestLongNames(t *testing.T) { // P13.2, W1: names of any length, told whole
	x := timer.New()
	long := strings.Repeat("vine ", 1<<16)
	wantStart(t, x, 1, long+"b", long+"a", long)
	wantTick(t, x, long, long+"a", long+"b")
}
