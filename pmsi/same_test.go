package pmsi_test

import (
	"bytes"
	"slices"
	"testing"

	"vinery/api"
	"vinery/pmsi"
)

// wantSame wants two to be the same tunnel or not, both ways round.
func wantSame(t *testing.T, want bool, a, b api.Tunnel) {
	t.Helper()
	if x, y := pmsi.Same(a, b), pmsi.Same(b, a); x != want || y != want {
		t.Errorf("Same(%v, %v): %v; the other way %v", a, b, x, y)
	}
}

func TestSame(t *testing.T) { // P6.2: Leaf and Label do not count, all else does
	for _, u := range append(rights(), oddOnes()...) {
		wantSame(t, true, u, u)
		v := u
		v.Id = slices.Clone(u.Id)
		wantSame(t, true, u, v)
		v.Leaf = !u.Leaf
		wantSame(t, true, u, v)
		for _, label := range append([]int{0, 16, mostLabel}, oddLabels...) {
			v.Label = label
			wantSame(t, true, u, v)
		}
		for _, kind := range append([]int{0, 1, 2, 3, 4, 5, 6, 7}, oddKinds...) {
			w := v
			w.Kind = kind
			wantSame(t, kind == u.Kind, u, w)
		}
		for _, root := range append([]api.Addr{none, root4, root6, {Size: 4}, {Size: 16}, {Size: 4, B: [16]byte{10, 0, 0, 2}}}, oddRoots...) {
			w := v
			w.Root = root
			wantSame(t, root == u.Root, u, w)
		}
		wantOtherIds(t, u)
	}
}

// oddOnes are some that are not right: they are the same or not by the same words.
func oddOnes() []api.Tunnel {
	var l []api.Tunnel
	for _, root := range oddRoots {
		l = append(l, api.Tunnel{Kind: api.TunnelCopies, Root: root})
	}
	for _, kind := range oddKinds {
		l = append(l, api.Tunnel{Kind: kind, Root: root4, Id: ids(100)})
	}
	return append(l, api.Tunnel{Label: -1}, api.Tunnel{Kind: api.TunnelRsvp, Id: ids(7)}, api.Tunnel{Root: root6, Id: group4})
}

// wantOtherIds wants one not to be the same with any other Id.
func wantOtherIds(t *testing.T, u api.Tunnel) {
	t.Helper()
	v := u
	for i := range u.Id {
		v.Id = slices.Clone(u.Id)
		v.Id[i] ^= 1
		wantSame(t, false, u, v)
		v.Id = u.Id[:i]
		wantSame(t, false, u, v)
	}
	v.Id = append(slices.Clone(u.Id), 0)
	wantSame(t, false, u, v)
}

func TestSameWithNoId(t *testing.T) { // P6.2, W5
	for kind := -1; kind <= allKinds; kind++ {
		for _, root := range []api.Addr{none, root4, root6} {
			wantSame(t, true, api.Tunnel{Kind: kind, Root: root}, api.Tunnel{Kind: kind, Root: root, Id: []byte{}})
			wantSame(t, false, api.Tunnel{Kind: kind, Root: root}, api.Tunnel{Kind: kind, Root: root, Id: []byte{0}})
		}
	}
}

func TestSameByBytes(t *testing.T) { // P6.5: each with each
	l := rights()
	for _, u := range rights() {
		u.Leaf, u.Label = true, 17
		l = append(l, u)
	}
	for i, u := range l {
		for j, v := range l {
			a, b := written(t, u), written(t, v)
			want := i%(len(l)/2) == j%(len(l)/2)
			if byBytes := a[1] == b[1] && bytes.Equal(a[5:], b[5:]); byBytes != want {
				t.Errorf("%v, %v: by bytes %v", u, v, byBytes)
			}
			wantSame(t, want, u, v)
		}
	}
}
