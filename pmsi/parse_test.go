package pmsi_test

import (
	"bytes"
	"slices"
	"testing"

	"vinery/api"
	"vinery/pmsi"
)

// wantUnread wants bytes to be refused, and nothing else to be told of them.
func wantUnread(t *testing.T, b ...byte) {
	t.Helper()
	if u, e := pmsi.Parse(b); e != api.ErrForm || !equal(u, api.Tunnel{}) {
		t.Errorf("Parse(%v): %v, %v, want ErrForm", b, u, e)
	}
}

// with are the bytes with another one at a place.
func with(b []byte, at int, n byte) []byte {
	b = slices.Clone(b)
	b[at] = n
	return b
}

// written are those of a tunnel that is right.
func written(t *testing.T, u api.Tunnel) []byte {
	t.Helper()
	b, e := pmsi.Bytes(u)
	if e != api.OK {
		t.Fatalf("Bytes(%v): %v", u, e)
	}
	return b
}

// rights are some of each kind, both sizes of roots, the ends of how long an Id is.
func rights() []api.Tunnel {
	l := []api.Tunnel{right(api.TunnelNone), right(api.TunnelRsvp)}
	for _, root := range []api.Addr{root4, root6} {
		l = append(l, api.Tunnel{Kind: api.TunnelCopies, Root: root})
		for _, kind := range anyId {
			for _, n := range []int{0, 1, 2, 4, 16, 63, 64} {
				l = append(l, api.Tunnel{Kind: kind, Root: root, Id: ids(n)})
			}
		}
	}
	for _, kind := range groups {
		l = append(l, api.Tunnel{Kind: kind, Root: root4, Id: group4}, api.Tunnel{Kind: kind, Root: root6, Id: group6})
	}
	return l
}

func TestParseOfFewBytes(t *testing.T) { // P6.1: none, one to five of them
	wantUnread(t)
	wantUnread(t, []byte{}...)
	for n := 1; n < 5; n++ {
		wantUnread(t, make([]byte, n)...)
	}
	for kind := 1; kind < 256; kind++ {
		wantUnread(t, 0, byte(kind), 0, 0, 0)
		wantUnread(t, 0, byte(kind), 0, 1)
		wantUnread(t, 0, byte(kind))
	}
}

func TestParseOddLeaf(t *testing.T) { // P6.1: 0 or 1
	for _, u := range rights() {
		b := written(t, u)
		for first := 2; first < 256; first++ {
			wantUnread(t, with(b, 0, byte(first))...)
		}
	}
}

func TestParseOddLabel(t *testing.T) { // P6.1: the last bit, each of the three bits that must be 0, all four of them
	for _, u := range rights() {
		for _, label := range []int{0, 16, 1 << 19, mostLabel} {
			u.Label = label
			b := written(t, u)
			for low := 1; low < 16; low++ {
				wantUnread(t, with(b, 4, b[4]|byte(low))...)
			}
		}
	}
}

func TestParseOddKind(t *testing.T) { // P6.1: no other kind has such an identifier, if its bytes do not tell it
	for _, u := range rights() {
		b := written(t, u)
		for kind := allKinds; kind < 256; kind++ {
			wantUnread(t, with(b, 1, byte(kind))...)
		}
		if slices.Contains(anyId, u.Kind) {
			wantUnread(t, with(b, 1, byte(api.TunnelMldp+api.TunnelMesh-u.Kind))...)
		}
	}
}

func TestParseRsvpGap(t *testing.T) { // P6.1: each of the two 0s between
	b := written(t, right(api.TunnelRsvp))
	for n := 1; n < 256; n++ {
		wantUnread(t, with(b, 9, byte(n))...)
		wantUnread(t, with(b, 10, byte(n))...)
		wantUnread(t, with(with(b, 9, byte(n)), 10, byte(n))...)
	}
	long := append(slices.Clone(b), root6.B[:12]...)
	wantUnread(t, long...) // a root of IPv6
}

func TestParseOddIdentifier(t *testing.T) { // P6.1: its first byte, the family, the size
	for _, u := range rights() {
		if !slices.Contains(anyId, u.Kind) {
			continue
		}
		b := written(t, u)
		for at := 5; at < 9; at++ {
			for n := range 256 {
				if byte(n) != b[at] {
					wantUnread(t, with(b, at, byte(n))...)
				}
			}
		}
		count := 9 + u.Root.Size
		for n := range 256 {
			if n != len(u.Id) {
				wantUnread(t, with(b, count+1, byte(n))...) // one too few and one too many, too
			}
			if n > 0 {
				wantUnread(t, with(b, count, byte(n))...)
			}
		}
	}
}

func TestParseLongIds(t *testing.T) { // P6.1: one of more than MaxId bytes, though the count tells so
	for _, kind := range anyId {
		for _, root := range []api.Addr{root4, root6} {
			b := written(t, api.Tunnel{Kind: kind, Root: root, Id: ids(mostId)})
			count := 9 + root.Size
			for _, n := range []int{65, 66, 127, 128, 255, 256, 320, 65535} {
				c := append(slices.Clone(b[:count]), byte(n>>8), byte(n))
				wantUnread(t, append(c, ids(n)...)...)
			}
		}
	}
}

func TestParseOddRootSizes(t *testing.T) { // P6.1: a size that is none, though so many bytes stand there
	for _, kind := range anyId {
		b := written(t, api.Tunnel{Kind: kind, Root: root4})
		for size := range 40 {
			for family := range 4 {
				c := append(slices.Clone(b[:7]), byte(family), byte(size))
				c = append(c, make([]byte, size)...)
				c = append(c, 0, 1, 9)
				if u, e := pmsi.Parse(c); (size == 4 && family == 1) || (size == 16 && family == 2) {
					if e != api.OK || u.Root != (api.Addr{Size: size}) || string(u.Id) != "\x09" {
						t.Errorf("Parse(%v): %v, %v", c, u, e)
					}
				} else {
					wantUnread(t, c...)
				}
			}
		}
	}
}

func TestParseOddEnds(t *testing.T) { // P6.1: a byte too few, one too many, and each beginning
	for _, u := range rights() {
		b := written(t, u)
		for n := range b {
			if u.Kind != api.TunnelCopies || n != 5+root4.Size { // else the first bytes of its root are one
				wantUnread(t, b[:n]...)
			}
		}
		for _, more := range []byte{0, 1, 255} {
			wantUnread(t, append(slices.Clone(b), more)...)
		}
	}
}

func TestParseGroups(t *testing.T) { // P6.1: an Id that names no group, halves of an odd size
	for _, kind := range groups {
		head := []byte{0, byte(kind), 0, 1, 0}
		for first := range 256 {
			four := append(slices.Clone(head), 10, 0, 0, 1, byte(first), 0, 0, 1)
			if first < 224 || first >= 240 {
				wantUnread(t, four...)
			} else {
				wantWritten(t, api.Tunnel{Kind: kind, Label: 16, Root: root4, Id: []byte{byte(first), 0, 0, 1}}, four...)
			}
		}
		for n := range 40 {
			if c := append(slices.Clone(head), bytes.Repeat([]byte{231}, n)...); n != 8 {
				wantUnread(t, c...)
			}
			if c := append(slices.Clone(head), bytes.Repeat([]byte{255}, n)...); n != 32 {
				wantUnread(t, c...)
			}
		}
	}
}

func TestParseLongBytes(t *testing.T) { // P6.1, W1
	for kind := range allKinds {
		for _, n := range []int{1 << 8, 1 << 16, 1<<16 + 32, 1 << 20} {
			wantUnread(t, append([]byte{0, byte(kind), 0, 1, 0}, bytes.Repeat([]byte{231}, n)...)...)
			wantUnread(t, append([]byte{0, byte(kind), 0, 1, 0, 6, 0, 1, 4}, make([]byte, n)...)...)
		}
	}
}

// spoil writes all over bytes and their spare room.
func spoil(b []byte) {
	b = b[:cap(b)]
	for i := range b {
		b[i] ^= 0xFF
	}
}

func TestParseIsNew(t *testing.T) { // P6.3, W6: neither with what was handed in, nor with another answer
	for _, u := range rights() {
		b := append(written(t, u), 7, 7, 7, 7)
		was := slices.Clone(b)
		b = b[:len(b)-4]
		x, _ := pmsi.Parse(b)
		y, _ := pmsi.Parse(b)
		spoil(y.Id)
		if !equal(x, u) || !bytes.Equal(b[:len(was)], was) {
			t.Errorf("behind writing on an answer: %v, of %v", x, b[:len(was)])
		}
		spoil(b)
		if !equal(x, u) {
			t.Errorf("behind writing on what was handed in: %v", x)
		}
	}
}

func TestBytesAreNew(t *testing.T) { // P6.3, W6: with the spare room of both
	for _, u := range rights() {
		roomy := append(slices.Clone(u.Id), 7, 7, 7, 7)
		was := slices.Clone(roomy)
		u.Id = roomy[:len(roomy)-4]
		a, b := written(t, u), written(t, u)
		want := slices.Clone(a)
		spoil(b)
		if !bytes.Equal(a, want) || !bytes.Equal(roomy, was) {
			t.Errorf("behind writing on an answer: %v, want %v; of %v", a, want, roomy)
		}
		spoil(roomy)
		if !bytes.Equal(a, want) {
			t.Errorf("behind writing on what was handed in: %v, want %v", a, want)
		}
	}
}

func TestOthersLeaveTheirTunnels(t *testing.T) { // P6.3, W6: Right, Same, and Bytes and Parse where they refuse
	for n := range 70 {
		for kind := range allKinds {
			roomy := append(ids(n), 7, 7, 7, 7)
			was := slices.Clone(roomy)
			u := api.Tunnel{Kind: kind, Label: n - 1, Root: root6, Id: roomy[:n]}
			pmsi.Right(u)
			pmsi.Same(u, u)
			pmsi.Bytes(u)
			pmsi.Parse(roomy[:n])
			if !bytes.Equal(roomy, was) {
				t.Errorf("kind %d: %v, it was %v", kind, roomy, was)
			}
		}
	}
}
