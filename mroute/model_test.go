package mroute_test

import (
	"bytes"
	"encoding/binary"
	"fmt"
	"math/rand/v2"
	"net/netip"
	"slices"
	"testing"

	"vinery/api"
	"vinery/mroute"
	"vinery/rd"
)

// rest are bytes that a model reads from the front; ok, as long as they were there.
type rest struct {
	b  []byte
	ok bool
}

func (r *rest) next(n int) []byte {
	if r.ok = r.ok && n <= len(r.b); !r.ok {
		return make([]byte, n)
	}
	out := r.b[:n]
	r.b = r.b[n:]
	return out
}

// flowAddr reads an address with its number of bits ahead.
func (r *rest) flowAddr() api.Addr {
	bits := r.next(1)[0]
	r.ok = r.ok && (bits == 0 || bits == 32 || bits == 128)
	if !r.ok {
		return api.Addr{}
	}
	return address(r.next(int(bits) / 8))
}

// from reads an address that is all that is left.
func (r *rest) from() api.Addr {
	r.ok = r.ok && (len(r.b) == 4 || len(r.b) == 16)
	if !r.ok {
		return api.Addr{}
	}
	return address(r.next(len(r.b)))
}

// address is that of bytes.
func address(b []byte) api.Addr {
	a := api.Addr{Size: len(b)}
	copy(a.B[:], b)
	return a
}

// modelRoute reads what is just one route, as the chapter's words have it, place by place: with the size of its flow, 0 if it has none.
func modelRoute(b []byte) (m api.Mroute, flow int, ok bool) {
	if len(b) < 2 || len(b) != 2+int(b[1]) {
		return m, 0, false
	}
	r := &rest{b[2:], true}
	if m.Kind = int(b[0]); m.Kind == 4 {
		flow = modelKey(r, &m)
		m.From = r.from()
		return m, flow, r.ok
	}
	copy(m.RD[:], r.next(8))
	if m.Kind == 2 || m.Kind == 6 || m.Kind == 7 {
		m.AS = int(binary.BigEndian.Uint32(r.next(4)))
	}
	if m.Kind == 3 || m.Kind >= 5 {
		m.Source, m.Group = r.flowAddr(), r.flowAddr()
	}
	if m.Kind == 1 || m.Kind == 3 {
		m.From = r.from()
	}
	return m, max(m.Source.Size, m.Group.Size), r.ok && len(r.b) == 0 && m.Kind >= 1 && m.Kind <= 7 && modelFlow(m)
}

// modelKey reads the key of a leaf: the size of the flow in it.
func modelKey(r *rest, m *api.Mroute) int {
	if len(r.b) < 2 {
		r.ok = false
		return 0
	}
	key := r.next(2 + int(r.b[1]))
	if !r.ok || key[0] != 2 && key[0] != 3 {
		r.ok = false
		return 0
	}
	_, flow, ok := modelRoute(key)
	r.ok, m.Key = ok, string(key)
	return flow
}

// modelFlow tells of the flow's addresses of a route of a kind that is known, if they are right.
func modelFlow(m api.Mroute) bool {
	s, g := m.Source, m.Group
	group := func(a api.Addr) bool { return a.Size == 4 && a.B[0]/16 == 14 || a.Size == 16 && a.B[0] == 255 }
	switch m.Kind {
	case 3:
		return !group(s) && (g.Size == 0 || group(g)) && (s.Size == 0 || g.Size == 0 || s.Size == g.Size)
	case 5, 6, 7:
		return s.Size == g.Size && !group(s) && group(g)
	}
	return s == api.Addr{} && g == api.Addr{}
}

// model takes one at the front.
func model(b []byte, size int) (api.Mroute, int, api.Errno) {
	switch {
	case size != 4 && size != 16:
		return api.Mroute{}, 0, api.ErrArg
	case len(b) < 2 || len(b) < 2+int(b[1]):
		return api.Mroute{}, 0, api.ErrEnd
	}
	n := 2 + int(b[1])
	m, flow, ok := modelRoute(b[:n])
	if !ok || flow == 20-size {
		return api.Mroute{}, 0, api.ErrForm
	}
	return m, n, api.OK
}

// wantAs wants bytes to be taken as the model takes them, and what was taken to be written so again: is there one?
func wantAs(t *testing.T, b []byte, size int) bool {
	t.Helper()
	want, n, errno := model(b, size)
	if m, got, e := mroute.Take(b, size); m != want || got != n || e != errno {
		t.Fatalf("Take(%v, %d): %v, %d, %v, want %v, %d, %v", b, size, m, got, e, want, n, errno)
	}
	if errno != api.OK {
		return false
	}
	if again, e := mroute.Bytes(want); e != api.OK || !bytes.Equal(again, b[:n]) {
		t.Fatalf("Bytes(%v): %v, %v, want %v", want, again, e, b[:n])
	}
	return true
}

// pick is one of some.
func pick[T any](r *rand.Rand, l ...T) T { return l[r.IntN(len(l))] }

// someBytes are of a row that is often the bytes of one, or nearly so.
func someBytes(r *rand.Rand) []byte {
	kind := pick[byte](r, 0, 1, 2, 3, 4, 5, 6, 7, 8)
	b := slices.Clone(pick(r, distB, oddDist[:], make([]byte, 8)))
	if kind == leaf {
		b = someBytes(r)
	}
	if kind == inter || kind == shared || kind == tree {
		b = append(b, as...)
	}
	if kind == selected || kind >= active {
		b = append(b, pick(r, src4, src4, src6, src6, []byte{0}, grp4, grp6)...)
		b = append(b, pick(r, grp4, grp4, grp6, grp6, []byte{0}, src4, src6)...)
	}
	if kind == intra || kind == selected || kind == leaf {
		b = append(b, pick(r, frm4, frm6, frm4, frm6, nil, frm4[1:], frm6[:5])...)
	}
	return append([]byte{kind, byte(len(b))}, b...)
}

// bend changes some bytes: in a place, at the end.
func bend(r *rand.Rand, b []byte) []byte {
	b = slices.Clone(b)
	switch r.IntN(4) {
	case 0:
		b[r.IntN(len(b))] = byte(r.IntN(256))
	case 1:
		b[r.IntN(len(b))] ^= 1 << r.IntN(8)
	case 2:
		b = b[:r.IntN(len(b))]
	default:
		b = append(b, byte(r.IntN(256)))
		b[1]++
	}
	return b
}

func TestTakeAsTheModel(t *testing.T) { // P7.1, P7.2, P7.8: in any bytes
	r := rand.New(rand.NewPCG(1, 2))
	taken := [lastKind + 1]int{}
	for range 200000 {
		b, size := someBytes(r), pick(r, 4, 16)
		if wantAs(t, b, size) {
			taken[b[0]]++
			for range 3 {
				wantAs(t, bend(r, b), size)
			}
		}
	}
	for kind, n := range taken[1:] {
		if n < 1000 {
			t.Errorf("of kind %d just %d were taken", kind+1, n)
		}
	}
}

// someRoute is one that is often right.
func someRoute(r *rand.Rand) api.Mroute {
	m := right(pick(r, 1, 2, 3, 3, 4, 4, 5, 6, 7))
	if m.Kind == leaf {
		m.Key = string(someBytes(r))
	}
	sources := append([]api.Addr{none, source4, source6, group4}, pick(r, oddAddrs...))
	groups := append([]api.Addr{none, group4, group6, source6}, pick(r, oddAddrs...))
	for range r.IntN(4) {
		switch r.IntN(7) {
		case 0:
			m.Kind = pick(r, append(oddKinds, 1, 2, 3, 4, 5, 6, 7)...)
		case 1:
			m.RD = pick(r, api.RD{}, dist, oddDist)
		case 2:
			m.AS = pick(r, append(oddAS, 0, 0, 1, mostAS)...)
		case 3:
			m.Source = pick(r, sources...)
		case 4:
			m.Group = pick(r, groups...)
		case 5:
			m.From = pick(r, none, from4, from6, pick(r, oddAddrs...))
		case 6:
			m.Key = pick(r, "", string(someBytes(r)))
		}
	}
	return m
}

// modelRight tells of one whether it is.
func modelRight(m api.Mroute) bool {
	bare := api.Mroute{Kind: m.Kind}
	addrs := []api.Addr{}
	switch m.Kind {
	case 1:
		bare.RD, bare.From = m.RD, m.From
	case 2:
		bare.RD, bare.AS = m.RD, m.AS
	case 3:
		bare.RD, bare.Source, bare.Group, bare.From = m.RD, m.Source, m.Group, m.From
	case 4:
		bare.Key, bare.From = m.Key, m.From
	case 5:
		bare.RD, bare.Source, bare.Group = m.RD, m.Source, m.Group
	case 6, 7:
		bare.RD, bare.AS, bare.Source, bare.Group = m.RD, m.AS, m.Source, m.Group
	default:
		return false
	}
	for _, a := range append(addrs, m.Source, m.Group, m.From) {
		if !(a == api.Addr{} || a.Size == 16 || a.Size == 4 && a == address(a.B[:4])) {
			return false
		}
	}
	from := m.From.Size > 0 || m.Kind == 2 || m.Kind > 4
	return m == bare && m.AS >= 0 && m.AS>>32 == 0 && from && modelFlow(m) && modelKeyed(m)
}

// modelKeyed tells whether one's key is one.
func modelKeyed(m api.Mroute) bool {
	if m.Kind != 4 {
		return true
	}
	k, _, ok := modelRoute([]byte(m.Key))
	return ok && (k.Kind == 2 || k.Kind == 3)
}

// modelText is the text of one that is right, by the library's ways.
func modelText(m api.Mroute) string {
	flow := func(a api.Addr) string {
		if a.Size == 0 {
			return "*"
		}
		ip, _ := netip.AddrFromSlice(a.B[:a.Size])
		return ip.String()
	}
	d, s, g, from := rd.Text(m.RD), flow(m.Source), flow(m.Group), flow(m.From)
	switch m.Kind {
	case 1:
		return fmt.Sprintf("1 %s %s", d, from)
	case 2:
		return fmt.Sprintf("2 %s %d", d, m.AS)
	case 3:
		return fmt.Sprintf("3 %s %s %s %s", d, s, g, from)
	case 4:
		k, _, _ := modelRoute([]byte(m.Key))
		return fmt.Sprintf("4 [%s] %s", modelText(k), from)
	case 5:
		return fmt.Sprintf("5 %s %s %s", d, s, g)
	}
	return fmt.Sprintf("%d %s %d %s %s", m.Kind, d, m.AS, s, g)
}

func TestRoutesAsTheModel(t *testing.T) { // P7.1, P7.5, P7.6, P7.8: of any routes
	r := rand.New(rand.NewPCG(3, 4))
	right := [lastKind + 1]int{}
	for range 200000 {
		m := someRoute(r)
		if !modelRight(m) {
			wantOdd(t, m)
			wantText(t, "", m)
			wantNoLeaf(t, m, from4)
			continue
		}
		right[m.Kind]++
		b := written(t, m)
		if back, _, ok := modelRoute(b); !ok || back != m {
			t.Fatalf("Bytes(%v): %v", m, b)
		}
		wantText(t, modelText(m), m)
		from := pick(r, none, from4, from6, pick(r, oddAddrs...))
		l := api.Mroute{Kind: leaf, Key: string(b), From: from}
		if modelRight(l) {
			wantLeaf(t, l, m, from)
		} else {
			wantNoLeaf(t, m, from)
		}
	}
	for kind, n := range right[1:] {
		if n < 1000 {
			t.Errorf("of kind %d just %d were right", kind+1, n)
		}
	}
}
