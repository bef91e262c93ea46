package attr_test

import (
	"slices"
	"testing"

	"vinery/api"
	"vinery/attr"
)

// saying are the attributes of which just this kind is there, with this value.
func saying(t *testing.T, kind int, value []byte) api.Attrs {
	t.Helper()
	a, rest, out := attr.Read([]api.Raw{raw(flagsOf(kind), kind, value...)})
	if len(rest) != 0 || out != api.OutOk {
		t.Fatalf("%d with %v: %v, %d", kind, value, rest, out)
	}
	return a
}

// oddFlags are all flags of a byte, and some of none, but these.
func oddFlags(but ...int) []int {
	l := []int{-1, -64, -128, -256, 256, 256 + optional, 256 + transitive, 256 + passed, 1<<32 + transitive, 1<<32 + optional, 1 << 62}
	for n := range 256 {
		l = append(l, n)
	}
	return slices.DeleteFunc(l, func(n int) bool { return slices.Contains(but, n) })
}

func TestReadExamples(t *testing.T) { // P9.3: the chapter's
	a := nothing()
	a.Med = 9
	wantRead(t, []api.Raw{raw(64, origin, 0), raw(128, med, 0, 0, 0, 9)}, a, nil, api.OutOk)
	wantRead(t, []api.Raw{raw(64, origin, 3)}, nothing(), nil, api.OutWithdraw)
	wantRead(t, []api.Raw{raw(128, origin, 0)}, nothing(), nil, api.OutWithdraw)
	wantRead(t, []api.Raw{raw(64, 77)}, nothing(), nil, api.OutReset)
}

func TestReadFlags(t *testing.T) { // P9.3: of known kinds those of the table, and FlagPartial where it may stand
	for _, s := range shapes {
		fine := []int{s.flags}
		if s.flags == passed {
			fine = append(fine, passed|partial)
		}
		for _, f := range fine {
			wantRead(t, []api.Raw{raw(f, s.kind, s.one...)}, saying(t, s.kind, s.one), nil, api.OutOk)
			wantRead(t, []api.Raw{raw(f, s.kind, s.none...)}, nothing(), nil, api.OutWithdraw)
		}
		for _, f := range oddFlags(fine...) {
			wantRead(t, []api.Raw{raw(f, s.kind, s.one...)}, nothing(), nil, api.OutWithdraw)
			wantRead(t, []api.Raw{raw(f, s.kind, s.none...)}, nothing(), nil, api.OutWithdraw)
		}
	}
}

func TestReadASecondOne(t *testing.T) { // P9.3: of a known kind: let go, whatever it is
	for _, s := range shapes {
		one := raw(s.flags, s.kind, s.one...)
		says := saying(t, s.kind, s.one)
		wrong := []api.Raw{raw(s.flags, s.kind, s.none...), raw(s.flags^optional, s.kind, s.one...), raw(0, s.kind, s.another...), raw(s.flags|long, s.kind, s.none...)}
		for _, second := range append([]api.Raw{one, raw(s.flags, s.kind, s.another...)}, wrong...) {
			wantRead(t, []api.Raw{one, second}, says, nil, api.OutDiscard)
			wantRead(t, []api.Raw{one, second, second}, says, nil, api.OutDiscard)
			wantRead(t, []api.Raw{one, raw(passed, 77, 1), second}, says, []api.Raw{raw(passed, 77, 1)}, api.OutDiscard)
			for _, first := range wrong {
				wantRead(t, []api.Raw{first, second}, nothing(), nil, api.OutWithdraw)
				wantRead(t, []api.Raw{first, second, one}, nothing(), nil, api.OutWithdraw)
			}
		}
	}
}

func TestReadEachOfAllTwice(t *testing.T) { // P9.3: the first ones say it
	others := bare(raw(optional, med, 1, 1, 1, 1), raw(transitive, pref, 2, 2, 2, 2), raw(optional, originator, 3, 3, 3, 3), raw(optional, clusters, 4, 4, 4, 4), raw(passed, exts, 5, 5, 5, 5, 5, 5, 5, 5), raw(passed, tunnel, 0, 0, 0, 0, 0))
	wantRead(t, rows(fullRaws(), others), full(), nil, api.OutDiscard)
	l := rows(others, fullRaws())
	a, _, _ := attr.Read(others)
	wantRead(t, l, a, nil, api.OutDiscard)
}

func TestReadUnknownKinds(t *testing.T) { // P9.3: with each of the flags; a second one is as the first
	for _, kind := range unknowns {
		for _, f := range append(oddFlags(), oddFlags()[:20]...) {
			w, twin := raw(f, kind, 1, 2), raw(f, kind)
			out, rest, two := api.OutOk, []api.Raw{w}, []api.Raw{w, twin}
			switch {
			case f&optional == 0:
				out, rest, two = api.OutReset, nil, nil
			case f&transitive == 0:
				rest, two = nil, nil
			}
			wantRead(t, []api.Raw{w}, nothing(), rest, out)
			wantRead(t, []api.Raw{w, twin}, nothing(), two, out)
		}
	}
}

func TestReadUnknownKindsInOrder(t *testing.T) { // P9.3: those that are not read stand as they stood, and however many there are
	l := []api.Raw{raw(passed, 77, 1), raw(optional, reach, 2), raw(passed|partial, 200, 3), raw(optional, 200, 4), raw(passed, 77, 1), raw(optional, unreach, 5), raw(passed|1, 3)}
	wantRead(t, rows(l, bare()), nothing(), without(l, 3), api.OutOk)
	wantRead(t, rows(bare(), l), nothing(), without(l, 3), api.OutOk)
	many := times(3*mostAttrs, raw(passed, 77, count(300)...))
	wantRead(t, many, nothing(), many, api.OutOk)
}

func TestReadReachAndUnreach(t *testing.T) { // P9.3: with FlagOptional alone; it is not read here, whatever its value is
	for _, value := range [][]byte{nil, {0}, {0, 1, 5}, count(mostValue + 1)} {
		for _, kind := range []int{reach, unreach} {
			w := raw(optional, kind, value...)
			wantRead(t, rows(bare(), []api.Raw{w}), nothing(), []api.Raw{w}, api.OutOk)
		}
	}
	for _, kind := range []int{reach, unreach} {
		for _, f := range oddFlags(optional) {
			w := raw(f, kind, 9)
			wantRead(t, rows(bare(), []api.Raw{w}), nothing(), []api.Raw{w}, api.OutReset)
			wantRead(t, []api.Raw{w}, nothing(), []api.Raw{w}, api.OutReset)
		}
	}
}

func TestReadASecondReach(t *testing.T) { // P9.3: let go, and the session ends, whatever its flags and its value are
	for _, kind := range []int{reach, unreach} {
		for _, first := range []int{optional, 0, passed} {
			for _, f := range oddFlags() {
				l := []api.Raw{raw(first, kind, 1), raw(f, kind, 2), raw(f, kind, 1)}
				wantRead(t, rows(bare(), l[:2]), nothing(), l[:1], api.OutReset)
				wantRead(t, rows(l, bare()), nothing(), l[:1], api.OutReset)
			}
		}
	}
	one, other := raw(optional, reach, 1), raw(optional, unreach, 2)
	wantRead(t, rows(bare(), []api.Raw{one, other}), nothing(), []api.Raw{one, other}, api.OutOk)
	wantRead(t, rows([]api.Raw{other, one}, bare()), nothing(), []api.Raw{other, one}, api.OutOk)
	wantRead(t, rows([]api.Raw{other, one, one, other}, bare()), nothing(), []api.Raw{other, one}, api.OutReset)
}

func TestReadWhatReachNeeds(t *testing.T) { // P9.3: AttrOrigin and AttrPath, ahead of it or behind it
	o, p, r, u := raw(transitive, origin, 2), raw(transitive, path), raw(optional, reach), raw(optional, unreach)
	says := nothing()
	says.Origin = 2
	rest := []api.Raw{r}
	wantRead(t, []api.Raw{r}, nothing(), rest, api.OutWithdraw)
	for _, l := range [][]api.Raw{{o, r}, {r, o}} {
		wantRead(t, l, says, rest, api.OutWithdraw)
	}
	for _, l := range [][]api.Raw{{p, r}, {r, p}} {
		wantRead(t, l, nothing(), rest, api.OutWithdraw)
	}
	for _, l := range [][]api.Raw{{o, p, r}, {p, o, r}, {o, r, p}, {p, r, o}, {r, o, p}, {r, p, o}} {
		wantRead(t, l, says, rest, api.OutOk)
		wantRead(t, append(l, o), says, rest, api.OutDiscard)
	}
	for _, l := range [][]api.Raw{{u}, {o, u}, {u, p}, {o}, {p}, {}} {
		a, _, out := attr.Read(l)
		if out != api.OutOk || a.Med != -1 {
			t.Errorf("Read(%v): %v, %d", l, a, out)
		}
	}
	wantRead(t, []api.Raw{r, raw(optional, med, 0, 0, 0, 1), raw(0, 1<<32+1), raw(0, 258)}, api.Attrs{Med: 1, Pref: -1}, rest, api.OutReset)
	wantRead(t, []api.Raw{raw(transitive, origin, 3), p, r}, nothing(), rest, api.OutWithdraw)
	wantRead(t, []api.Raw{raw(0, reach)}, nothing(), []api.Raw{raw(0, reach)}, api.OutReset)
}

func TestReadTellsTheGreatest(t *testing.T) { // P9.3: of several, in either order
	cause := []struct {
		out int
		l   []api.Raw
	}{
		{api.OutOk, nil},
		{api.OutOk, []api.Raw{raw(optional, 77)}},
		{api.OutDiscard, []api.Raw{raw(transitive, pref, 0, 0, 0, 1), raw(transitive, pref, 0, 0, 0, 1)}},
		{api.OutDiscard, []api.Raw{raw(optional, originator, 1, 2, 3, 4), raw(0, originator)}},
		{api.OutWithdraw, []api.Raw{raw(optional, med)}},
		{api.OutWithdraw, []api.Raw{raw(optional, exts, 1, 2, 3, 4, 5, 6, 7, 8)}},
		{api.OutReset, []api.Raw{raw(transitive, 78)}},
		{api.OutReset, []api.Raw{raw(passed, unreach)}},
		{api.OutReset, []api.Raw{raw(optional, reach), raw(optional, reach)}},
	}
	for i, x := range cause {
		for j, y := range cause {
			if i == j {
				continue
			}
			l := rows(bare(), x.l, y.l)
			if _, _, out := attr.Read(l); out != max(x.out, y.out) {
				t.Errorf("Read(%v): %d, want %d", l, out, max(x.out, y.out))
			}
			if _, _, out := attr.Read(rows(x.l, y.l, bare())); out != max(x.out, y.out) {
				t.Errorf("Read(%v), the others ahead: %d, want %d", l, out, max(x.out, y.out))
			}
		}
	}
}

func TestReadSaysItWhateverComes(t *testing.T) { // P9.3: what was right is taken, also where the session ends
	l := rows(fullRaws(), []api.Raw{raw(0, 77), raw(passed, 78, 1)})
	wantRead(t, l, full(), l[9:], api.OutReset)
	slices.Reverse(l)
	wantRead(t, l, full(), l[:1], api.OutReset)
}
