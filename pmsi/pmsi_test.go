package pmsi_test

import (
	"bytes"
	"math"
	"slices"
	"testing"

	"vinery/api"
	"vinery/pmsi"
)

var (
	_ func(api.Tunnel) bool                = pmsi.Right
	_ func(api.Tunnel) ([]byte, api.Errno) = pmsi.Bytes
	_ func([]byte) (api.Tunnel, api.Errno) = pmsi.Parse
	_ func(a, b api.Tunnel) bool           = pmsi.Same
)

// The limits of tunnels, as the document's numbers; below: package api tells the same.
const (
	mostLabel = 1048575
	mostId    = 64
)

var (
	_ [0]struct{} = [api.MaxLabel - mostLabel]struct{}{}
	_ [0]struct{} = [api.MaxId - mostId]struct{}{}
)

// The kinds, as the document's table has them.
var (
	anyId  = []int{api.TunnelMldp, api.TunnelMesh}
	groups = []int{api.TunnelSsm, api.TunnelSm, api.TunnelBidir}
)

const allKinds = 8

// Addresses that are right, and some that are not.
var (
	none      = api.Addr{}
	root4     = api.Addr{Size: 4, B: [16]byte{10, 0, 0, 1}}
	root6     = api.Addr{Size: 16, B: [16]byte{32, 1, 13, 184, 15: 7}}
	oddRoots  = []api.Addr{{Size: 4, B: [16]byte{10, 0, 0, 1, 1}}, {Size: 4, B: [16]byte{15: 1}}, {B: [16]byte{1}}, {B: [16]byte{15: 1}}, {Size: 1}, {Size: 3}, {Size: 5}, {Size: 6}, {Size: 8}, {Size: 15}, {Size: 17}, {Size: 32}, {Size: -4}, {Size: -16}, {Size: -1}, {Size: 260}, {Size: 1<<32 + 4}, {Size: 1 << 32}, {Size: math.MinInt}, {Size: math.MaxInt}}
	oddKinds  = []int{-1, 8, 9, 255, 256, 257, 258, 262, -2, -250, -256, 1 << 32, 1<<32 + 6, 1 << 62, math.MinInt, math.MinInt + 6, math.MaxInt}
	oddLabels = []int{-1, -16, mostLabel + 1, mostLabel + 17, 1 << 24, 1 << 28, 1 << 32, 1<<32 + 16, 1 << 60, 1<<60 + 16, math.MinInt, math.MinInt + 16, math.MaxInt}
	group4    = []byte{224, 0, 0, 1}
	group6    = append([]byte{255, 2}, make([]byte, 14)...)
	rsvpId    = []byte{1, 2, 3, 4, 5, 6}
)

// ids is one of so many bytes, none of which is 0.
func ids(n int) []byte {
	b := make([]byte, n)
	for i := range b {
		b[i] = byte(1 + i%255)
	}
	return b
}

// wantWritten wants a tunnel to be right, to be these bytes, and these bytes to be it.
func wantWritten(t *testing.T, u api.Tunnel, want ...byte) {
	t.Helper()
	if !pmsi.Right(u) {
		t.Errorf("Right(%v): false", u)
	}
	if b, e := pmsi.Bytes(u); e != api.OK || !bytes.Equal(b, want) {
		t.Errorf("Bytes(%v): %v, %v, want %v", u, b, e, want)
	}
	if got, e := pmsi.Parse(want); e != api.OK || !equal(got, u) {
		t.Errorf("Parse(%v): %v, %v, want %v", want, got, e, u)
	}
}

// equal tells whether two tell the same in all their fields.
func equal(a, b api.Tunnel) bool {
	return a.Leaf == b.Leaf && a.Kind == b.Kind && a.Label == b.Label && a.Root == b.Root && string(a.Id) == string(b.Id)
}

// wantOdd wants tunnels not to be right, and none to be written.
func wantOdd(t *testing.T, l ...api.Tunnel) {
	t.Helper()
	for _, u := range l {
		if pmsi.Right(u) {
			t.Errorf("Right(%v): true", u)
		}
		if b, e := pmsi.Bytes(u); e != api.ErrArg || len(b) != 0 {
			t.Errorf("Bytes(%v): %v, %v, want ErrArg", u, b, e)
		}
	}
}

// right is one of each kind, with a root of IPv4 where it has one.
func right(kind int) api.Tunnel {
	u := api.Tunnel{Kind: kind, Label: 16, Root: root4}
	switch kind {
	case api.TunnelNone:
		u.Root = none
	case api.TunnelRsvp:
		u.Id = slices.Clone(rsvpId)
	case api.TunnelSsm, api.TunnelSm, api.TunnelBidir:
		u.Id = slices.Clone(group4)
	case api.TunnelMldp, api.TunnelMesh:
		u.Id = []byte{1, 2}
	}
	return u
}

func TestEachKind(t *testing.T) { // P6.1, P6.4: which bytes they are
	wantWritten(t, api.Tunnel{}, 0, 0, 0, 0, 0)
	wantWritten(t, api.Tunnel{Leaf: true}, 1, 0, 0, 0, 0)
	wantWritten(t, api.Tunnel{Kind: api.TunnelRsvp, Root: root4, Id: rsvpId}, 0, 1, 0, 0, 0, 1, 2, 3, 4, 0, 0, 5, 6, 10, 0, 0, 1)
	wantWritten(t, api.Tunnel{Kind: api.TunnelRsvp, Root: root4, Id: make([]byte, 6)}, 0, 1, 0, 0, 0, 0, 0, 0, 0, 0, 0, 0, 0, 10, 0, 0, 1)
	wantWritten(t, api.Tunnel{Kind: api.TunnelMldp, Root: root4, Id: []byte{9}}, 0, 2, 0, 0, 0, 6, 0, 1, 4, 10, 0, 0, 1, 0, 1, 9)
	wantWritten(t, api.Tunnel{Kind: api.TunnelMesh, Root: root4, Id: []byte{9}}, 0, 7, 0, 0, 0, 7, 0, 1, 4, 10, 0, 0, 1, 0, 1, 9)
	wantWritten(t, api.Tunnel{Kind: api.TunnelMldp, Root: root6, Id: []byte{9, 8}}, 0, 2, 0, 0, 0, 6, 0, 2, 16, 32, 1, 13, 184, 0, 0, 0, 0, 0, 0, 0, 0, 0, 0, 0, 7, 0, 2, 9, 8)
	wantWritten(t, api.Tunnel{Kind: api.TunnelMesh, Root: root6}, 0, 7, 0, 0, 0, 7, 0, 2, 16, 32, 1, 13, 184, 0, 0, 0, 0, 0, 0, 0, 0, 0, 0, 0, 7, 0, 0)
	for _, kind := range groups {
		wantWritten(t, api.Tunnel{Kind: kind, Root: root4, Id: group4}, 0, byte(kind), 0, 0, 0, 10, 0, 0, 1, 224, 0, 0, 1)
		wantWritten(t, api.Tunnel{Kind: kind, Root: root6, Id: group6}, 0, byte(kind), 0, 0, 0, 32, 1, 13, 184, 0, 0, 0, 0, 0, 0, 0, 0, 0, 0, 0, 7, 255, 2, 0, 0, 0, 0, 0, 0, 0, 0, 0, 0, 0, 0, 0, 0)
	}
	wantWritten(t, api.Tunnel{Kind: api.TunnelCopies, Root: root4}, 0, 6, 0, 0, 0, 10, 0, 0, 1)
	wantWritten(t, api.Tunnel{Kind: api.TunnelCopies, Root: root6}, 0, 6, 0, 0, 0, 32, 1, 13, 184, 0, 0, 0, 0, 0, 0, 0, 0, 0, 0, 0, 7)
}

func TestOddKinds(t *testing.T) { // P6.1: one below the first, one past the last, such as would be one in a byte
	for _, kind := range oddKinds {
		for like := range allKinds {
			u := right(like)
			u.Kind = kind
			wantOdd(t, u)
		}
	}
}

func TestLabels(t *testing.T) { // P6.1, P6.4: both ends, of each kind; the last bit is 0
	for kind := range allKinds {
		for _, leaf := range []bool{false, true} {
			u := right(kind)
			u.Leaf = leaf
			b, _ := pmsi.Bytes(u)
			for _, c := range []struct {
				label int
				want  [3]byte
			}{{0, [3]byte{}}, {1, [3]byte{0, 0, 16}}, {15, [3]byte{0, 0, 240}}, {16, [3]byte{0, 1, 0}}, {0x12345, [3]byte{0x12, 0x34, 0x50}}, {1 << 19, [3]byte{128, 0, 0}}, {mostLabel - 1, [3]byte{255, 255, 224}}, {mostLabel, [3]byte{255, 255, 240}}} {
				u.Label = c.label
				copy(b[2:5], c.want[:])
				wantWritten(t, u, b...)
			}
			for _, odd := range oddLabels {
				u.Label = odd
				wantOdd(t, u)
			}
		}
	}
}

func TestLeaf(t *testing.T) { // P6.1, P6.4
	for kind := range allKinds {
		u := right(kind)
		b, _ := pmsi.Bytes(u)
		for i, leaf := range []bool{false, true} {
			u.Leaf, b[0] = leaf, byte(i)
			wantWritten(t, u, b...)
		}
	}
}

func TestRoots(t *testing.T) { // P6.1: which kind may have which
	for kind := range allKinds {
		u := right(kind)
		for _, odd := range oddRoots {
			u.Root = odd
			wantOdd(t, u)
		}
		if u.Root = none; kind != api.TunnelNone {
			wantOdd(t, u)
		}
	}
	for _, root := range []api.Addr{root4, root6, {Size: 4}, {Size: 16}} {
		wantOdd(t, api.Tunnel{Root: root}, api.Tunnel{Label: 16, Root: root})
	}
	for _, root := range []api.Addr{{Size: 4}, {Size: 4, B: [16]byte{255, 255, 255, 255}}, {Size: 4, B: [16]byte{224, 0, 0, 1}}} { // whatever they name
		for kind := 1; kind < allKinds; kind++ {
			u := right(kind)
			u.Root = root
			wantRight(t, u)
		}
	}
}

// wantRight wants tunnels to be right, and to be read as they were written.
func wantRight(t *testing.T, l ...api.Tunnel) {
	t.Helper()
	for _, u := range l {
		b, e := pmsi.Bytes(u)
		if back, e2 := pmsi.Parse(b); !pmsi.Right(u) || e != api.OK || e2 != api.OK || !equal(back, u) {
			t.Errorf("%v: right %v; Bytes: %v, %v; Parse: %v, %v", u, pmsi.Right(u), b, e, back, e2)
		}
	}
}

func TestNoneHasNothing(t *testing.T) { // P6.1: TunnelNone
	wantOdd(t, api.Tunnel{Id: []byte{0}}, api.Tunnel{Id: rsvpId}, api.Tunnel{Root: root4, Id: group4}, api.Tunnel{Id: group4})
	for n := 1; n < 70; n++ {
		wantOdd(t, api.Tunnel{Id: ids(n)})
	}
}

func TestRsvp(t *testing.T) { // P6.1: how long its Id is, whose address its root is
	for n := range 70 {
		if u := (api.Tunnel{Kind: api.TunnelRsvp, Root: root4, Id: ids(n)}); n != 6 {
			wantOdd(t, u)
		} else {
			wantRight(t, u)
		}
	}
	for _, id := range [][]byte{nil, ids(5), rsvpId, ids(7), ids(16), ids(18)} {
		wantOdd(t, api.Tunnel{Kind: api.TunnelRsvp, Root: root6, Id: id}, api.Tunnel{Kind: api.TunnelRsvp, Id: id})
	}
}

func TestIdLengths(t *testing.T) { // P6.1, P6.4: TunnelMldp, TunnelMesh: none to MaxId bytes
	for _, kind := range anyId {
		for _, root := range []api.Addr{root4, root6} {
			family := byte(1)
			if root.Size == 16 {
				family = 2
			}
			for n := range mostId + 1 {
				want := append([]byte{1, byte(kind), 255, 255, 240, byte(kind), 0, family, byte(root.Size)}, root.B[:root.Size]...)
				if kind == api.TunnelMldp {
					want[5] = 6
				}
				want = append(append(want, 0, byte(n)), ids(n)...)
				wantWritten(t, api.Tunnel{Leaf: true, Kind: kind, Label: mostLabel, Root: root, Id: ids(n)}, want...)
			}
			for _, n := range []int{mostId + 1, mostId + 2, 128, 255, 256, 257, 320, 1 << 16, 1<<16 + 1} {
				wantOdd(t, api.Tunnel{Kind: kind, Root: root, Id: ids(n)})
			}
		}
		wantOdd(t, api.Tunnel{Kind: kind}, api.Tunnel{Kind: kind, Id: []byte{1}})
	}
}

func TestGroups(t *testing.T) { // P6.1: TunnelSsm, TunnelSm, TunnelBidir: of the root's size, and it names a group
	for _, kind := range groups {
		for first := range 256 {
			four := api.Tunnel{Kind: kind, Root: root4, Id: []byte{byte(first), 0, 0, 1}}
			six := api.Tunnel{Kind: kind, Root: root6, Id: append([]byte{byte(first)}, make([]byte, 15)...)}
			if first >= 224 && first < 240 {
				wantRight(t, four)
			} else {
				wantOdd(t, four)
			}
			if first == 255 {
				wantRight(t, six)
			} else {
				wantOdd(t, six)
			}
		}
		wantOdd(t, api.Tunnel{Kind: kind, Root: root4, Id: group6}, api.Tunnel{Kind: kind, Root: root6, Id: group4}, api.Tunnel{Kind: kind, Id: group4}, api.Tunnel{Kind: kind, Id: group6}, api.Tunnel{Kind: kind, Root: root4}, api.Tunnel{Kind: kind, Root: root6}, api.Tunnel{Kind: kind})
		for n := range 70 {
			id := bytes.Repeat([]byte{224}, n)
			if n != 4 {
				wantOdd(t, api.Tunnel{Kind: kind, Root: root4, Id: id})
			}
			if id = bytes.Repeat([]byte{255}, n); n != 16 {
				wantOdd(t, api.Tunnel{Kind: kind, Root: root6, Id: id})
			}
		}
	}
}

func TestCopiesHaveNoId(t *testing.T) { // P6.1: TunnelCopies
	for n := 1; n < 70; n++ {
		wantOdd(t, api.Tunnel{Kind: api.TunnelCopies, Root: root4, Id: ids(n)}, api.Tunnel{Kind: api.TunnelCopies, Root: root6, Id: ids(n)})
	}
	wantOdd(t, api.Tunnel{Kind: api.TunnelCopies, Root: root4, Id: group4}, api.Tunnel{Kind: api.TunnelCopies, Root: root4, Id: rsvpId}, api.Tunnel{Kind: api.TunnelCopies})
}

func TestNoId(t *testing.T) { // P6.1, W5: a nil one and an empty one are the same
	for kind := range allKinds {
		a, b := right(kind), right(kind)
		a.Id, b.Id = nil, []byte{}
		x, e := pmsi.Bytes(a)
		y, e2 := pmsi.Bytes(b)
		if pmsi.Right(a) != pmsi.Right(b) || !bytes.Equal(x, y) || e != e2 {
			t.Errorf("kind %d: %v, %v; %v, %v", kind, x, e, y, e2)
		}
	}
}
