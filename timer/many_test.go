package timer_test

import (
	"math/rand/v2"
	"slices"
	"testing"

	"vinery/timer"
)

// pick is one of some.
func pick[T any](r *rand.Rand, l ...T) T { return l[r.IntN(len(l))] }

// seldom is true once in so many times.
func seldom(r *rand.Rand, often int) bool { return r.IntN(often) == 0 }

// anyTicks is mostly a number up to the longest one, seldom one that is none, or great.
func anyTicks(r *rand.Rand, longest int) int {
	switch {
	case seldom(r, 12):
		return pick(r, noTicks...)
	case seldom(r, 12):
		return pick(r, greatTicks...)
	case seldom(r, 100):
		return int(r.Uint64())
	}
	return 1 + r.IntN(longest)
}

// wantAs wants timers to tell of all these names what the model does.
func wantAs(t *testing.T, x *timer.Timers, m *model, names []string) {
	t.Helper()
	for _, name := range names {
		n, is := x.Left(name)
		if want, wantIs := m.left(name); n != want || is != wantIs {
			t.Fatalf("Left(%q): %d, %v, want %d, %v", name, n, is, want, wantIs)
		}
	}
	n, is := x.Next()
	if want, wantIs := m.next(); n != want || is != wantIs {
		t.Fatalf("Next: %d, %v, want %d, %v", n, is, want, wantIs)
	}
}

// step does the same thing to both, wants the same answer, and tells what came of it, as a word.
func step(t *testing.T, r *rand.Rand, x *timer.Timers, m *model, names []string, longest int) string {
	t.Helper()
	name := pick(r, names...)
	switch kind := r.IntN(100); {
	case kind == 0:
		x.Clear()
		m.clear()
		return "cleared"
	case kind < 20:
		got, want := x.Tick(), m.tick()
		if !slices.Equal(got, want) {
			t.Fatalf("Tick: %q, want %q", got, want)
		}
		return "tick, " + several(len(want))
	case kind < 30:
		got, want := x.Stop(name), m.stop(name)
		if got != want {
			t.Fatalf("Stop(%q): %v, want %v", name, got, want)
		}
		if want {
			return "stopped"
		}
		return "not there"
	}
	ticks := anyTicks(r, longest)
	got, want := x.Start(name, ticks), m.start(name, ticks)
	if got != want {
		t.Fatalf("Start(%q, %d): %v, want %v", name, ticks, got, want)
	}
	switch want {
	case errArg:
		return "no ticks"
	case errFull:
		return "full"
	}
	return "started"
}

// several is how many came, as a word.
func several(n int) string {
	switch n {
	case 0:
		return "none"
	case 1:
		return "one"
	}
	return "some"
}

func TestTimersAsTheModel(t *testing.T) { // P13.1 to P13.4, W2: in any order of calls
	r := rand.New(rand.NewPCG(13, 1))
	seen := map[string]int{}
	for range 1200 {
		names := append(numbered("", r.IntN(2*most)), oddNames[:1+r.IntN(8)]...)
		longest := pick(r, 3, 12, 1000)
		x, m := timer.New(), &model{}
		for range 150 {
			seen[step(t, r, x, m, names, longest)]++
			wantAs(t, x, m, names)
		}
	}
	for _, what := range []string{"cleared", "tick, none", "tick, one", "tick, some", "stopped", "not there", "no ticks", "full", "started"} {
		if seen[what] < 500 {
			t.Errorf("%s: %d times", what, seen[what])
		}
	}
}

func TestLongLife(t *testing.T) { // P13.3, W1: a set that lives for many ticks, and has many names
	x, m := timer.New(), &model{}
	names := numbered("", 149)
	for i := range 200000 {
		name, ticks := names[i%len(names)], 1+i%37
		if got, want := x.Start(name, ticks), m.start(name, ticks); got != want {
			t.Fatalf("Start(%q, %d): %v, want %v", name, ticks, got, want)
		}
		if got, want := x.Tick(), m.tick(); !slices.Equal(got, want) {
			t.Fatalf("Tick: %q, want %q", got, want)
		}
	}
	wantAs(t, x, m, names)
}
