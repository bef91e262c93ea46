package pmsi_test

import (
	"bytes"
	"encoding/binary"
	"math/rand/v2"
	"slices"
	"testing"

	"vinery/api"
	"vinery/pmsi"
)

// model reads bytes as the chapter's table has them, place by place.
func model(b []byte) (api.Tunnel, bool) {
	if len(b) < 5 || b[0] > 1 || b[1] > 7 || b[4]%16 != 0 {
		return api.Tunnel{}, false
	}
	u := api.Tunnel{Leaf: b[0] == 1, Kind: int(b[1]), Label: int(binary.BigEndian.Uint32(b[1:])&0xFFFFFF) / 16}
	rest := b[5:]
	ok := len(rest) == 0
	switch u.Kind {
	case 1:
		if ok = len(rest) == 12 && rest[4] == 0 && rest[5] == 0; ok {
			u.Id = []byte{rest[0], rest[1], rest[2], rest[3], rest[6], rest[7]}
			u.Root = address(rest[8:])
		}
	case 2, 7:
		ok = modelAny(&u, rest)
	case 3, 4, 5:
		half := len(rest) / 2
		four := len(rest) == 8 && rest[4] >= 224 && rest[4] < 240
		six := len(rest) == 32 && rest[16] == 255
		if ok = four || six; ok {
			u.Root, u.Id = address(rest[:half]), rest[half:]
		}
	case 6:
		if ok = len(rest) == 4 || len(rest) == 16; ok {
			u.Root = address(rest)
		}
	}
	if !ok {
		return api.Tunnel{}, false
	}
	return u, true
}

// modelAny reads an identifier with an Id of any size.
func modelAny(u *api.Tunnel, rest []byte) bool {
	first := byte(6)
	if u.Kind == 7 {
		first = 7
	}
	size := 0
	switch {
	case bytes.HasPrefix(rest, []byte{first, 0, 1, 4}):
		size = 4
	case bytes.HasPrefix(rest, []byte{first, 0, 2, 16}):
		size = 16
	default:
		return false
	}
	rest = rest[4:]
	if len(rest) < size+2 {
		return false
	}
	n := int(rest[size])*256 + int(rest[size+1])
	if n > 64 || len(rest) != size+2+n {
		return false
	}
	u.Root, u.Id = address(rest[:size]), rest[size+2:]
	return true
}

// address is that of bytes.
func address(b []byte) api.Addr {
	a := api.Addr{Size: len(b)}
	copy(a.B[:], b)
	return a
}

// wantAs wants bytes to be read as the model reads them, and what is read to be written so again.
func wantAs(t *testing.T, b []byte) bool {
	t.Helper()
	want, ok := model(b)
	got, e := pmsi.Parse(b)
	if !equal(got, want) || (e == api.OK) != ok || (e != api.OK && e != api.ErrForm) {
		t.Fatalf("Parse(%v): %v, %v, want %v, %v", b, got, e, want, ok)
	}
	if !ok {
		return false
	}
	if again, e := pmsi.Bytes(got); e != api.OK || !bytes.Equal(again, b) || !pmsi.Right(got) {
		t.Fatalf("Bytes(%v): %v, %v, want %v", got, again, e, b)
	}
	return true
}

// someBytes are of a row that is often one, or nearly one.
func someBytes(r *rand.Rand) []byte {
	pick := func(l ...byte) byte { return l[r.IntN(len(l))] }
	b := []byte{pick(0, 1, 0, 1, 0, 1, 2), byte(r.IntN(9)), byte(r.IntN(256)), byte(r.IntN(256)), pick(0, 16, 240, 128, 1, 2, 4, 8)}
	size := []int{4, 16, 4, 16, 0, 5}[r.IntN(6)]
	root := make([]byte, size)
	for i := range root {
		root[i] = pick(0, 1, 10, 255, 224)
	}
	id := make([]byte, []int{0, 1, 4, 6, 16, 63, 64, 65}[r.IntN(8)])
	for i := range id {
		id[i] = pick(0, 9, 255, 239, 224)
	}
	switch r.IntN(4) {
	case 0:
		b = append(b, id...)
	case 1:
		b = append(b, pick(6, 7), 0, pick(1, 2), byte(size))
		b = append(append(b, root...), 0, byte(len(id)))
		return append(b, id...)
	case 2:
		id = id[:min(6, len(id))]
		b = append(append(b, id[:min(4, len(id))]...), 0, 0)
		b = append(b, id[min(4, len(id)):]...)
		return append(b, root...)
	}
	return append(append(b, root...), id[:min(size, len(id))]...)
}

// bend changes some bytes: in a place, at the end.
func bend(r *rand.Rand, b []byte) []byte {
	b = slices.Clone(b)
	switch r.IntN(4) {
	case 0:
		b[r.IntN(len(b))] = byte(r.IntN(256))
	case 1:
		b[r.IntN(len(b))] ^= 1 << r.IntN(8)
	case 2:
		b = b[:r.IntN(len(b))]
	default:
		b = append(b, byte(r.IntN(256)))
	}
	return b
}

func TestParseAsTheModel(t *testing.T) { // P6.1, P6.4: in any bytes
	r := rand.New(rand.NewPCG(1, 2))
	read := [allKinds]int{}
	for range 300000 {
		b := someBytes(r)
		if wantAs(t, b) {
			read[b[1]]++
			wantAs(t, bend(r, b))
		}
	}
	for kind, n := range read {
		if n < 100 {
			t.Errorf("of kind %d just %d were read", kind, n)
		}
	}
}

// someTunnel is one that is often right.
func someTunnel(r *rand.Rand) api.Tunnel {
	roots := append([]api.Addr{none, root4, root4, root4, root6, root6, root6, {Size: 4}}, oddRoots[:3]...)
	id := [][]byte{nil, {}, {1}, rsvpId, group4, {239, 255, 255, 255}, {223, 1, 1, 1}, group6, ids(5), ids(7), ids(16), ids(64), ids(65)}
	return api.Tunnel{Leaf: r.IntN(2) == 0, Kind: r.IntN(10) - 1, Label: []int{0, 16, mostLabel, mostLabel + 1, -1, 77}[r.IntN(6)], Root: roots[r.IntN(len(roots))], Id: id[r.IntN(len(id))]}
}

// modelRight tells of one by the chapter's table.
func modelRight(u api.Tunnel) bool {
	four, six := u.Root.Size == 4, u.Root.Size == 16
	for i, b := range u.Root.B {
		if b != 0 && i >= u.Root.Size {
			return false
		}
	}
	if u.Label < 0 || u.Label > 1048575 {
		return false
	}
	switch u.Kind {
	case 0:
		return u.Root.Size == 0 && len(u.Id) == 0
	case 1:
		return four && len(u.Id) == 6
	case 2, 7:
		return (four || six) && len(u.Id) <= 64
	case 3, 4, 5:
		return four && len(u.Id) == 4 && u.Id[0]/16 == 14 || six && len(u.Id) == 16 && u.Id[0] == 255
	case 6:
		return (four || six) && len(u.Id) == 0
	}
	return false
}

func TestTunnelsAsTheModel(t *testing.T) { // P6.1, P6.2, P6.4, P6.5: of any tunnels
	r := rand.New(rand.NewPCG(3, 4))
	same := 0
	for range 200000 {
		u, v := someTunnel(r), someTunnel(r)
		if r.IntN(2) == 0 {
			v.Kind, v.Root = u.Kind, u.Root
		}
		for _, w := range []api.Tunnel{u, v} {
			if !modelRight(w) {
				wantOdd(t, w)
				continue
			}
			b := written(t, w)
			if back, ok := model(b); !ok || !equal(back, w) || !wantAs(t, b) {
				t.Fatalf("Bytes(%v): %v", w, b)
			}
		}
		if !modelRight(u) || !modelRight(v) {
			continue
		}
		a, b := written(t, u), written(t, v)
		want := a[1] == b[1] && bytes.Equal(a[5:], b[5:])
		wantSame(t, want, u, v)
		if want {
			same++
		}
	}
	if same < 500 {
		t.Errorf("just %d pairs were the same", same)
	}
}
