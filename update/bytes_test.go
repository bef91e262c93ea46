package update_test

import (
	"slices"
	"testing"

	"vinery/api"
	"vinery/update"
)

func TestBodies(t *testing.T) { // P10.1, P10.4: Reach alone, Unreach alone, both, neither, of each family: byte by byte
	for _, f := range families() {
		for _, next := range []api.Addr{four1, six1, {Size: 4}} {
			re := []api.Table{with(f.table, next)}
			reBytes := raw(optional, reach, reached(f, next)...)
			wantBody(t, telling(nothing(), re, nil), body(cat(least, reBytes)))
			wantBody(t, telling(some(), re, []api.Table{}), body(cat(someBytes, reBytes)))
			for _, g := range families() {
				un, unBytes := []api.Table{g.table}, raw(optional, unreach, withdrawn(g)...)
				wantBody(t, telling(nothing(), re, un), body(cat(least, reBytes, unBytes)))
				wantBody(t, telling(some(), re, un), body(cat(someBytes, reBytes, unBytes)))
				wantBody(t, telling(some(), re, []api.Table{bare(g.table)}), body(cat(someBytes, reBytes, raw(optional, unreach, g.first...))))
			}
		}
		wantBody(t, asUnreach(f.table), body(raw(optional, unreach, withdrawn(f)...)))
		wantBody(t, asUnreach(bare(f.table)), body(raw(optional, unreach, f.first...)))
	}
	wantBody(t, full(), fullBytes())
	wantBody(t, telling(nothing(), nil, nil), []byte{0, 0, 0, 0})
	wantBody(t, telling(nothing(), []api.Table{}, []api.Table{}), []byte{0, 0, 0, 0})
}

func TestBodiesSpelledOut(t *testing.T) { // P10.1: as numbers alone
	u := telling(nothing(), []api.Table{{Size: 4, Safi: multi, Next: four1, M: []api.Mroute{intra}}}, nil)
	wantBody(t, u, []byte{0, 0, 0, 33, 64, 1, 1, 0, 64, 2, 0, 128, 14, 23, 0, 1, 5, 4, 10, 0, 0, 1, 0, 1, 12, 0, 0, 0, 1, 0, 0, 0, 1, 10, 0, 0, 1})
	u = telling(nothing(), []api.Table{{Size: 16, Safi: private, Next: four1, U: []api.Uroute{some6}}}, []api.Table{{Size: 4, Safi: private, U: []api.Uroute{some4}}})
	wantBody(t, u, []byte{
		0, 0, 0, 61, 64, 1, 1, 0, 64, 2, 0,
		128, 14, 31, 0, 2, 128, 12, 0, 0, 0, 0, 0, 0, 0, 0, 10, 0, 0, 1, 0, 97, 255, 255, 241, 0, 0, 0, 1, 0, 0, 0, 1, 32, 0,
		128, 15, 17, 0, 1, 128, 104, 0, 1, 1, 0, 0, 0, 1, 0, 0, 0, 1, 10, 1,
	})
	u = asReach(api.Table{Size: 4, Safi: private, Next: six1, U: []api.Uroute{all4}})
	u.Attrs = nothing()
	wantBody(t, u, []byte{
		0, 0, 0, 51, 64, 1, 1, 0, 64, 2, 0,
		128, 14, 41, 0, 1, 128, 24, 0, 0, 0, 0, 0, 0, 0, 0, 32, 1, 13, 184, 0, 0, 0, 0, 0, 0, 0, 0, 0, 0, 0, 1, 0, 88, 0, 0, 1, 0, 0, 0, 1, 0, 0, 0, 1,
	})
}

func TestEmpty(t *testing.T) { // P10.1: attr.None(), no tables
	u := update.Empty()
	if !equal(u, api.Update{Attrs: nothing()}) || len(u.Reach)+len(u.Unreach) != 0 {
		t.Errorf("Empty(): %+v", u)
	}
	wantBody(t, u, []byte{0, 0, 0, 0})
}

// filling are routes of a private network that have just so many bytes, of 36 on: each has 12 to 16.
func filling(n int) []api.Uroute {
	l := slices.Repeat([]api.Uroute{all4}, n/12)
	for i := range l {
		more := min(4, n-12*len(l))
		l[i].Prefix.Bits, n = 8*more, n-more
	}
	return l
}

func TestFilling(t *testing.T) { // what the tests of lengths lean on
	for n := 36; n < 100; n++ {
		u := asUnreach(api.Table{Size: 4, Safi: private, U: filling(n)})
		if b, e := update.Bytes(u); e != api.OK || len(b) != 4+3+3+n {
			t.Errorf("%d: %v, %v", n, b, e)
		}
	}
}

func TestLengths(t *testing.T) { // P10.1, P10.4: a body of just MaxMessage - HeadSize bytes, and of more
	const head = 4 + 4 + 3 // of the body, of a long attribute, of a table
	re := []api.Table{with(families()[0].table, four1)}
	ahead := len(someBytes) + len(raw(optional, reach, reached(families()[0], four1)...))
	for n := mostBody - 20; n <= mostBody+20; n++ {
		for _, u := range []api.Update{
			telling(nothing(), nil, []api.Table{{Size: 4, Safi: private, U: filling(n - head)}}),
			telling(some(), re, []api.Table{{Size: 4, Safi: private, U: filling(n - head - ahead)}}),
			telling(nothing(), []api.Table{{Size: 4, Safi: private, Next: four1, U: filling(n - head - len(least) - 14)}}, nil),
		} {
			if n > mostBody {
				wantLong(t, u)
				continue
			}
			b, e := update.Bytes(u)
			if e != api.OK || len(b) != n {
				t.Fatalf("%d bytes, %v, want %d", len(b), e, n)
			}
			wantBody(t, u, b)
		}
	}
}

func TestLongValues(t *testing.T) { // P10.1: attr.Join's error, of values beyond MaxValue: of routes, of a path
	for _, n := range []int{mostValue - 3, mostValue - 2, 1 << 16, 1<<16 + 1, 1 << 17, 1 << 20} {
		wantLong(t, asUnreach(api.Table{Size: 4, Safi: private, U: filling(n)}))
		wantLong(t, telling(some(), []api.Table{{Size: 4, Safi: private, Next: four1, U: filling(n)}}, nil))
	}
	segment := api.Segment{AS: slices.Repeat([]int{7}, 255)}
	for n := 1; n <= 16; n++ {
		u := full()
		u.Attrs.Path = slices.Repeat([]api.Segment{segment}, n)
		if n > 3 {
			wantLong(t, u)
		} else if b, e := update.Bytes(u); e != api.OK {
			t.Errorf("%d segments: %d bytes, %v", n, len(b), e)
		}
		u.Reach = nil
		wantOdd(t, u)
	}
}

func TestOddAheadOfLong(t *testing.T) { // P10.1, W4: an update that is not right and too long
	l := append(filling(1<<16), api.Uroute{})
	wantOdd(t, asUnreach(api.Table{Size: 4, Safi: private, U: l}))
	wantOdd(t, telling(some(), nil, []api.Table{{Size: 4, Safi: private, U: l[:len(l)-1]}}))
}
