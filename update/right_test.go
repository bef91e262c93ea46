package update_test

import (
	"math"
	"testing"

	"vinery/api"
	"vinery/update"
)

// asReach and asUnreach tell just one table.
func asReach(t api.Table) api.Update   { return telling(some(), []api.Table{t}, nil) }
func asUnreach(t api.Table) api.Update { return telling(nothing(), nil, []api.Table{t}) }

// wantRightTable wants a table (its Next is looked at elsewhere) to be right, or not to be, reached and withdrawn.
func wantRightTable(t *testing.T, want bool, table api.Table) {
	t.Helper()
	for _, u := range []api.Update{asReach(with(table, four1)), asUnreach(with(table, none))} {
		if !want {
			wantOdd(t, u)
		} else if !update.Right(u) {
			t.Errorf("%+v is not right", u)
		}
	}
}

// oddSizes are neither 4 nor 16.
var oddSizes = []int{0, 1, 2, 3, 5, 8, 15, 17, 32, 64, 128, 256 + 4, -1, -4, -16, 1<<32 + 4, 1<<32 + 16, math.MinInt, math.MinInt + 4, math.MaxInt}

func TestRightSizes(t *testing.T) { // P10.1: 4, 16 and others, with routes and without
	for _, f := range families() {
		wantRightTable(t, true, f.table)
		for _, size := range oddSizes {
			odd := f.table
			odd.Size = size
			wantRightTable(t, false, odd)
			wantRightTable(t, false, bare(odd))
		}
		swapped := f.table
		swapped.Size = 20 - swapped.Size
		wantRightTable(t, false, swapped)
	}
}

func TestRightRoutesOfBothSizes(t *testing.T) { // P10.1: a route without a flow is of either size
	for _, size := range []int{4, 16} {
		for _, m := range []api.Mroute{intra, inter} {
			wantRightTable(t, true, api.Table{Size: size, Safi: multi, M: []api.Mroute{m}})
		}
	}
	wantRightTable(t, false, api.Table{Size: 16, Safi: multi, M: []api.Mroute{leaf4}})
}

func TestRightSafis(t *testing.T) { // P10.1: each, others
	for _, f := range families() {
		for safi := -1; safi <= 300; safi++ {
			table := f.table
			table.Safi = safi
			wantRightTable(t, safi == f.table.Safi, table)
			if safi != multi && safi != private {
				wantOdd(t, asUnreach(bare(table)))
			}
		}
		for _, safi := range []int{1<<32 + multi, 1<<32 + private, -multi, -private, multi - 256, private - 256, math.MinInt, math.MaxInt} {
			table := f.table
			table.Safi = safi
			wantRightTable(t, false, table)
			wantOdd(t, asUnreach(bare(table)))
		}
	}
}

func TestRightRowsOfASafi(t *testing.T) { // P10.1: M of SafiMulti, U of SafiPrivate, never the other one
	for _, f := range families() {
		both, other := f.table, bare(f.table)
		if f.table.Safi == multi {
			both.U, other.U = f.otherSafi.U, f.otherSafi.U
		} else {
			both.M, other.M = f.otherSafi.M, f.otherSafi.M
		}
		wantRightTable(t, false, both)
		wantRightTable(t, false, other)
		zero := f.table
		if f.table.Safi == multi {
			zero.U = make([]api.Uroute, 1)
		} else {
			zero.M = make([]api.Mroute, 1)
		}
		wantRightTable(t, false, zero)
		empty := f.table
		if f.table.Safi == multi {
			empty.U = []api.Uroute{}
		} else {
			empty.M = []api.Mroute{}
		}
		wantRightTable(t, true, empty)
	}
}

// oddMroutes are not right.
func oddMroutes() []api.Mroute {
	l := []api.Mroute{{}, {Kind: 8, RD: dist}, {Kind: -1}, {Kind: api.RouteIntra, RD: dist}, {Kind: api.RouteLeaf, Key: string(intraBytes), From: four1}}
	for _, m := range []api.Mroute{intra, select4, active4, active6, leaf4} {
		m.AS = 1
		l = append(l, m)
	}
	return append(l, api.Mroute{Kind: api.RouteInter, RD: dist, AS: -1}, api.Mroute{Kind: api.RouteInter, RD: dist, AS: 1 << 32})
}

// oddUroutes are not right.
func oddUroutes() []api.Uroute {
	bits, low, high := some4, some4, some6
	bits.Prefix.Bits, low.Label, high.Label = 7, -1, 1<<20
	return []api.Uroute{{}, {RD: dist}, bits, low, high, {RD: dist, Prefix: api.Prefix{Addr: four1, Bits: 33}}, {RD: dist, Prefix: api.Prefix{Addr: v6(1, 0), Bits: -1}}}
}

func TestRightRoutes(t *testing.T) { // P10.1: routes that are not right, and such of the other size: alone, ahead, between, behind
	for _, f := range families() {
		table := f.table
		wants := func(m []api.Mroute, u []api.Uroute) {
			t.Helper()
			table.M, table.U = m, u
			wantRightTable(t, false, table)
		}
		fine := f.table
		if fine.Safi == multi {
			for _, odd := range append(oddMroutes(), f.otherSize.M...) {
				one := []api.Mroute{odd}
				wants(one, nil)
				wants(cat(one, fine.M), nil)
				wants(cat(fine.M, one), nil)
				wants(cat(fine.M, one, fine.M), nil)
			}
			continue
		}
		for _, odd := range append(oddUroutes(), f.otherSize.U...) {
			one := []api.Uroute{odd}
			wants(nil, one)
			wants(nil, cat(one, fine.U))
			wants(nil, cat(fine.U, one))
			wants(nil, cat(fine.U, one, fine.U))
		}
	}
}

func TestRightNext(t *testing.T) { // P10.1: not none where it is reached, none where it is withdrawn, right always
	for _, f := range families() {
		for _, next := range []api.Addr{four1, {Size: 4}, six1, {Size: 16}, v4(224, 0, 0, 1)} {
			if u := asReach(with(f.table, next)); !update.Right(u) {
				t.Errorf("%+v is not right", u)
			}
			wantOdd(t, asUnreach(with(f.table, next)))
			wantOdd(t, asUnreach(with(bare(f.table), next)))
		}
		for _, next := range oddAddrs {
			wantOdd(t, asReach(with(f.table, next)))
			wantOdd(t, asUnreach(with(f.table, next)))
			wantOdd(t, asUnreach(with(bare(f.table), next)))
		}
		wantOdd(t, asReach(f.table))
	}
}

func TestRightHowManyTables(t *testing.T) { // P10.1: none, one, two, of each of all families
	for _, f := range families() {
		for _, g := range families() {
			re, un := with(f.table, four1), g.table
			for n := range 4 {
				for m := range 4 {
					u := api.Update{Attrs: nothing()}
					for range n {
						u.Reach = append(u.Reach, re)
					}
					for range m {
						u.Unreach = append(u.Unreach, un)
					}
					if n > 1 || m > 1 {
						wantOdd(t, u)
					} else if !update.Right(u) {
						t.Errorf("%+v is not right", u)
					}
				}
			}
			wantOdd(t, telling(some(), []api.Table{re, bare(re)}, nil))
			wantOdd(t, telling(some(), []api.Table{re, {}}, nil))
			wantOdd(t, telling(nothing(), nil, []api.Table{un, bare(un)}))
			wantOdd(t, telling(some(), []api.Table{re}, []api.Table{un, un}))
		}
	}
	wantOdd(t, asReach(api.Table{}))
	wantOdd(t, asUnreach(api.Table{}))
}

func TestRightOneWrongTableOfTwo(t *testing.T) { // P10.1: a Reach that is right does not help an Unreach that is not, nor the other way round
	for _, f := range families() {
		re, un := with(f.table, six1), f.table
		wantOdd(t, telling(some(), []api.Table{re}, []api.Table{re}))
		wantOdd(t, telling(some(), []api.Table{un}, []api.Table{un}))
		wantOdd(t, telling(some(), []api.Table{un}, []api.Table{re}))
		if u := telling(some(), []api.Table{re}, []api.Table{un}); !update.Right(u) {
			t.Errorf("%+v is not right", u)
		}
	}
}

func TestRightWithoutRoutes(t *testing.T) { // P10.1: a Reach has one at least, an Unreach need not
	for _, f := range families() {
		wantOdd(t, asReach(with(bare(f.table), four1)))
		wantOdd(t, telling(nothing(), []api.Table{with(bare(f.table), four1)}, nil))
		wantOdd(t, telling(nothing(), []api.Table{with(bare(f.table), four1)}, []api.Table{f.table}))
		if u := asUnreach(bare(f.table)); !update.Right(u) {
			t.Errorf("%+v is not right", u)
		}
	}
}

func TestRightAttrs(t *testing.T) { // P10.1: right where there is a Reach, attr.None() where there is none
	re, un := []api.Table{with(families()[0].table, four1)}, []api.Table{families()[2].table}
	odd := []func(*api.Attrs){
		func(a *api.Attrs) { a.Origin = 3 },
		func(a *api.Attrs) { a.Origin = -1 },
		func(a *api.Attrs) { a.Path = []api.Segment{{}} },
		func(a *api.Attrs) { a.Med = -2 },
		func(a *api.Attrs) { a.Pref = 1 << 32 },
		func(a *api.Attrs) { a.Originator = six1 },
		func(a *api.Attrs) { a.Clusters = make([]api.Addr, 1) },
		func(a *api.Attrs) { a.Exts = make([]api.Ext, 65) },
		func(a *api.Attrs) { a.Tunnels = make([]api.Tunnel, 2) },
	}
	for _, mar := range odd {
		for _, a := range []api.Attrs{some(), nothing()} {
			mar(&a)
			for _, u := range []api.Update{telling(a, re, nil), telling(a, re, un), telling(a, nil, un), telling(a, nil, nil)} {
				wantOdd(t, u)
			}
		}
	}
	there := []func(*api.Attrs){
		func(a *api.Attrs) { a.Origin = 1 },
		func(a *api.Attrs) { a.Path = some().Path },
		func(a *api.Attrs) { a.Med = 0 },
		func(a *api.Attrs) { a.Pref = 0 },
		func(a *api.Attrs) { a.Originator = four1 },
		func(a *api.Attrs) { a.Clusters = some().Clusters },
		func(a *api.Attrs) { a.Exts = some().Exts },
		func(a *api.Attrs) { a.Tunnels = make([]api.Tunnel, 1) },
		func(a *api.Attrs) { *a = some() },
	}
	for _, tell := range there {
		a := nothing()
		tell(&a)
		wantOdd(t, telling(a, nil, un))
		wantOdd(t, telling(a, nil, nil))
		wantOdd(t, telling(a, []api.Table{}, []api.Table{}))
		if u := telling(a, re, un); !update.Right(u) {
			t.Errorf("%+v is not right", u)
		}
	}
	wantOdd(t, api.Update{}) // its Med is there
	wantOdd(t, api.Update{Unreach: un})
}
