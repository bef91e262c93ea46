package attr_test

import (
	"slices"
	"testing"

	"vinery/api"
	"vinery/attr"
)

// wantSame wants two to be the same or not, both ways round.
func wantSame(t *testing.T, want bool, a, b api.Attrs) {
	t.Helper()
	if x, y := attr.Same(a, b), attr.Same(b, a); x != want || y != want {
		t.Errorf("Same(%v, %v): %v; the other way %v", a, b, x, y)
	}
}

// unlike are full attributes with one thing changed, each in another way; right or not.
func unlike() []api.Attrs {
	l := []api.Attrs{full(), nothing(), {}}
	change := func(by func(a *api.Attrs)) {
		a := full()
		by(&a)
		l = append(l, a)
	}
	for _, n := range []int{-2, -1, 0, 2, 3, 256, 1 << 32} {
		change(func(a *api.Attrs) { a.Origin = n })
		change(func(a *api.Attrs) { a.Med = n })
		change(func(a *api.Attrs) { a.Pref = n })
	}
	for _, o := range append([]api.Addr{{}, four2, v4(10, 0, 0, 0)}, oddAddrs...) {
		change(func(a *api.Attrs) { a.Originator = o })
		change(func(a *api.Attrs) { a.Clusters[1] = o })
		change(func(a *api.Attrs) { a.Tunnels[0].Root = o })
	}
	change(func(a *api.Attrs) { a.Clusters = nil })
	change(func(a *api.Attrs) { a.Clusters = a.Clusters[:1] })
	change(func(a *api.Attrs) { a.Clusters = a.Clusters[1:] })
	change(func(a *api.Attrs) { a.Clusters = append(a.Clusters, api.Addr{}) })
	change(func(a *api.Attrs) { slices.Reverse(a.Clusters) })
	change(func(a *api.Attrs) { a.Exts = nil })
	change(func(a *api.Attrs) { a.Exts = a.Exts[:1] })
	change(func(a *api.Attrs) { a.Exts = append(a.Exts, a.Exts[1]) })
	change(func(a *api.Attrs) { slices.Reverse(a.Exts) })
	for i := range 16 {
		change(func(a *api.Attrs) { a.Exts[i/8][i%8] ^= 128 })
	}
	return append(l, rows(unlikePaths(), unlikeTunnels())...)
}

// unlikePaths are full attributes with one thing of the path changed.
func unlikePaths() []api.Attrs {
	var l []api.Attrs
	change := func(by func(p []api.Segment) []api.Segment) {
		a := full()
		a.Path = by(a.Path)
		l = append(l, a)
	}
	for i := range 3 {
		change(func(p []api.Segment) []api.Segment { p[i].Set = !p[i].Set; return p })
		change(func(p []api.Segment) []api.Segment { p[i].AS[0]++; return p })
		change(func(p []api.Segment) []api.Segment { p[i].AS[len(p[i].AS)-1] += 7; return p })
		change(func(p []api.Segment) []api.Segment { p[i].AS = append(p[i].AS, 0); return p })
		change(func(p []api.Segment) []api.Segment { p[i].AS = nil; return p })
		change(func(p []api.Segment) []api.Segment { return p[:i] })
		change(func(p []api.Segment) []api.Segment { return slices.Insert(p, i, api.Segment{}) })
	}
	change(func(p []api.Segment) []api.Segment { return append(p, api.Segment{}) })
	change(func(p []api.Segment) []api.Segment { return append(p, api.Segment{Set: true}) })
	change(func(p []api.Segment) []api.Segment { slices.Reverse(p); return p })
	change(func(p []api.Segment) []api.Segment { slices.Reverse(p[2].AS); return p })
	change(func(p []api.Segment) []api.Segment {
		return []api.Segment{{AS: p[0].AS[:1]}, {AS: p[0].AS[1:]}, p[1], p[2]}
	})
	return l
}

// unlikeTunnels are full attributes with one thing of the tunnel changed.
func unlikeTunnels() []api.Attrs {
	var l []api.Attrs
	change := func(by func(u *api.Tunnel)) {
		a := full()
		by(&a.Tunnels[0])
		l = append(l, a)
	}
	change(func(u *api.Tunnel) { u.Leaf = false })
	change(func(u *api.Tunnel) { u.Kind = api.TunnelMesh })
	change(func(u *api.Tunnel) { u.Kind = -1 })
	change(func(u *api.Tunnel) { u.Label = 18 })
	change(func(u *api.Tunnel) { u.Label = 0 })
	change(func(u *api.Tunnel) { u.Id = nil })
	change(func(u *api.Tunnel) { u.Id = []byte{1} })
	change(func(u *api.Tunnel) { u.Id = []byte{1, 3} })
	change(func(u *api.Tunnel) { u.Id = []byte{1, 2, 0} })
	for _, t := range [][]api.Tunnel{nil, {{}}, times(2, full().Tunnels[0]), {full().Tunnels[0], {}}, {{}, full().Tunnels[0]}} {
		a := full()
		a.Tunnels = t
		l = append(l, a)
	}
	return l
}

// deep is a copy that shares nothing, with other spare room; rows that are empty are there in it.
func deep(a api.Attrs) api.Attrs {
	p := make([]api.Segment, 0, len(a.Path)+3)
	for _, s := range a.Path {
		p = append(p, api.Segment{Set: s.Set, AS: append(make([]int, 0, 300), s.AS...)})
	}
	u := make([]api.Tunnel, 0, 9)
	for _, one := range a.Tunnels {
		one.Id = append(make([]byte, 0, 70), one.Id...)
		u = append(u, one)
	}
	a.Path, a.Tunnels = p, u
	a.Clusters, a.Exts = append(make([]api.Addr, 0, 40), a.Clusters...), append(make([]api.Ext, 0, 70), a.Exts...)
	return a
}

func TestSameEachWithEach(t *testing.T) { // P9.2, W5: in each depth; attributes that are not right, too
	l := unlike()
	for i, a := range l {
		wantSame(t, true, a, a)
		wantSame(t, true, a, deep(a))
		for j, b := range l[:i] {
			if equal(a, b) {
				t.Fatalf("%d and %d of the test's are alike: %v", i, j, a)
			}
			wantSame(t, false, a, b)
			wantSame(t, false, deep(a), b)
		}
	}
}

func TestSameOfEmptyRows(t *testing.T) { // P9.2, W5: rows that are not there are as empty ones, in all depths
	a, b := nothing(), nothing()
	b.Path, b.Clusters, b.Exts, b.Tunnels = []api.Segment{}, []api.Addr{}, []api.Ext{}, []api.Tunnel{}
	wantSame(t, true, a, b)
	wantSame(t, true, a, attr.None())
	a.Path, b.Path = []api.Segment{{}, {Set: true}}, []api.Segment{{AS: []int{}}, {Set: true, AS: []int{}}}
	wantSame(t, true, a, b)
	a.Tunnels, b.Tunnels = []api.Tunnel{{}}, []api.Tunnel{{Id: []byte{}}}
	wantSame(t, true, a, b)
	b.Tunnels = nil
	wantSame(t, false, a, b)
	a.Tunnels, b.Path = nil, b.Path[:1]
	wantSame(t, false, a, b)
}
