package mroute_test

import (
	"bytes"
	"math"
	"slices"
	"testing"

	"vinery/api"
	"vinery/mroute"
)

var (
	_ func(api.Mroute) bool                                     = mroute.Right
	_ func(api.Mroute) ([]byte, api.Errno)                      = mroute.Bytes
	_ func(b []byte, size int) (api.Mroute, int, api.Errno)     = mroute.Take
	_ func(b []byte, size int) (api.Mroute, api.Errno)          = mroute.Parse
	_ func(...api.Mroute) ([]byte, api.Errno)                   = mroute.Row
	_ func(b []byte, size int) ([]api.Mroute, api.Errno)        = mroute.ReadRow
	_ func(a, b api.Mroute) int                                 = mroute.Compare
	_ func(m api.Mroute, from api.Addr) (api.Mroute, api.Errno) = mroute.Leaf
	_ func(api.Mroute) string                                   = mroute.Text
)

// The kinds, as the chapter tells them, and the greatest AS.
const (
	intra, inter, selected, leaf, active, shared, tree = 1, 2, 3, 4, 5, 6, 7

	lastKind = 7
	mostAS   = 4294967295
)

// The kinds that name a flow; those that need one; those that name an AS, a From.
var (
	flowKinds = []int{selected, active, shared, tree}
	fullKinds = []int{active, shared, tree}
	asKinds   = []int{inter, shared, tree}
	fromKinds = []int{intra, selected, leaf}
)

// Distinguishers, and addresses that are right.
var (
	dist    = api.RD{0, 0, 0, 1, 0, 0, 0, 1}
	oddDist = api.RD{0, 9, 255, 254, 253, 252, 251, 250}
	none    = api.Addr{}
	source4 = api.Addr{Size: 4, B: [16]byte{10, 1, 0, 1}}
	source6 = api.Addr{Size: 16, B: [16]byte{32, 1, 13, 184, 15: 7}}
	group4  = api.Addr{Size: 4, B: [16]byte{224, 0, 0, 1}}
	group6  = api.Addr{Size: 16, B: [16]byte{255, 2, 15: 1}}
	from4   = api.Addr{Size: 4, B: [16]byte{10, 0, 0, 1}}
	from6   = api.Addr{Size: 16, B: [16]byte{254, 128, 15: 2}}
)

// Addresses that are not right, kinds that are none, and numbers that are no AS.
var (
	oddAddrs = []api.Addr{{Size: 4, B: [16]byte{10, 0, 0, 1, 1}}, {Size: 4, B: [16]byte{15: 1}}, {B: [16]byte{1}}, {B: [16]byte{15: 1}}, {B: group6.B}, {Size: 1}, {Size: 3, B: [16]byte{1, 2, 3}}, {Size: 5, B: [16]byte{1, 2, 3, 4, 5}}, {Size: 8}, {Size: 15}, {Size: 17}, {Size: 32}, {Size: -4}, {Size: -16}, {Size: -1}, {Size: 260}, {Size: 1<<32 + 4}, {Size: math.MinInt}, {Size: math.MaxInt}, {Size: 4, B: [16]byte{224, 0, 0, 1, 1}}, {Size: 5, B: [16]byte{224, 0, 0, 1}}, {Size: 15, B: group6.B}, {Size: 17, B: group6.B}}
	oddKinds = []int{-1, 0, 8, 9, -2, -7, -250, -255, 255, 256, 257, 258, 259, 260, 263, 1 << 32, 1<<32 + 1, 1<<32 + 2, 1<<32 + 4, 1 << 62, math.MinInt, math.MinInt + 1, math.MinInt + 7, math.MaxInt - 1, math.MaxInt}
	oddAS    = []int{-1, -2, mostAS + 1, mostAS + 2, 1<<33 + 5, 1 << 40, 1 << 62, -1 << 32, math.MinInt, math.MinInt + 65000, math.MaxInt}
)

// right is one of each kind, of IPv4.
func right(kind int) api.Mroute {
	switch kind {
	case intra:
		return api.Mroute{Kind: intra, RD: dist, From: from4}
	case inter:
		return api.Mroute{Kind: inter, RD: dist, AS: 65000}
	case selected:
		return api.Mroute{Kind: selected, RD: dist, Source: source4, Group: group4, From: from4}
	case leaf:
		return api.Mroute{Kind: leaf, Key: string(cat([]byte{selected, 22}, distB, src4, grp4, frm4)), From: from4}
	case active:
		return api.Mroute{Kind: active, RD: dist, Source: source4, Group: group4}
	}
	return api.Mroute{Kind: kind, RD: dist, AS: 65000, Source: source4, Group: group4}
}

// cat are rows of bytes, one behind another.
func cat(l ...[]byte) []byte { return slices.Concat(l...) }

// wantWritten wants a route to be right, to be these bytes, and these bytes to be it, in rows of each of these sizes, and of no other.
func wantWritten(t *testing.T, m api.Mroute, want []byte, sizes ...int) {
	t.Helper()
	if !mroute.Right(m) {
		t.Errorf("Right(%v): false", m)
	}
	if b, e := mroute.Bytes(m); e != api.OK || !bytes.Equal(b, want) {
		t.Errorf("Bytes(%v): %v, %v, want %v", m, b, e, want)
	}
	for _, size := range []int{4, 16} {
		if slices.Contains(sizes, size) {
			wantTaken(t, want, size, m, len(want))
		} else {
			wantUntaken(t, want, size, api.ErrForm)
		}
	}
}

// wantOdd wants routes not to be right, and none to be written.
func wantOdd(t *testing.T, l ...api.Mroute) {
	t.Helper()
	for _, m := range l {
		if mroute.Right(m) {
			t.Errorf("Right(%v): true", m)
		}
		if b, e := mroute.Bytes(m); e != api.ErrArg || len(b) != 0 {
			t.Errorf("Bytes(%v): %v, %v, want ErrArg", m, b, e)
		}
	}
}

// wantRight wants routes to be right, and to be read as they were written.
func wantRight(t *testing.T, size int, l ...api.Mroute) {
	t.Helper()
	for _, m := range l {
		b, e := mroute.Bytes(m)
		if !mroute.Right(m) || e != api.OK {
			t.Errorf("%v: right %v; Bytes: %v, %v", m, mroute.Right(m), b, e)
		}
		wantTaken(t, b, size, m, len(b))
	}
}

// The bytes of a distinguisher, and of addresses with their numbers of bits.
var (
	distB = []byte{0, 0, 0, 1, 0, 0, 0, 1}
	src4  = []byte{32, 10, 1, 0, 1}
	src6  = []byte{128, 32, 1, 13, 184, 0, 0, 0, 0, 0, 0, 0, 0, 0, 0, 0, 7}
	grp4  = []byte{32, 224, 0, 0, 1}
	grp6  = []byte{128, 255, 2, 0, 0, 0, 0, 0, 0, 0, 0, 0, 0, 0, 0, 0, 1}
	frm4  = []byte{10, 0, 0, 1}
	frm6  = []byte{254, 128, 0, 0, 0, 0, 0, 0, 0, 0, 0, 0, 0, 0, 0, 2}
	as    = []byte{0, 0, 253, 232}
)

func TestEachKind(t *testing.T) { // P7.1, P7.2, P7.8: which bytes they are
	wantWritten(t, right(intra), cat([]byte{1, 12}, distB, frm4), 4, 16)
	wantWritten(t, api.Mroute{Kind: intra, RD: oddDist, From: from6}, cat([]byte{1, 24}, oddDist[:], frm6), 4, 16)
	wantWritten(t, right(inter), cat([]byte{2, 12}, distB, as), 4, 16)
	wantWritten(t, right(selected), cat([]byte{3, 22}, distB, src4, grp4, frm4), 4)
	wantWritten(t, api.Mroute{Kind: selected, RD: dist, Source: source4, Group: group4, From: from6}, cat([]byte{3, 34}, distB, src4, grp4, frm6), 4)
	wantWritten(t, api.Mroute{Kind: selected, RD: dist, Source: source6, Group: group6, From: from4}, cat([]byte{3, 46}, distB, src6, grp6, frm4), 16)
	wantWritten(t, api.Mroute{Kind: selected, RD: dist, Source: source6, Group: group6, From: from6}, cat([]byte{3, 58}, distB, src6, grp6, frm6), 16)
	for _, kind := range fullKinds {
		m := right(kind)
		number := as
		if kind == active {
			number = nil
		}
		wantWritten(t, m, cat([]byte{byte(kind), byte(18 + len(number))}, distB, number, src4, grp4), 4)
		m.Source, m.Group = source6, group6
		wantWritten(t, m, cat([]byte{byte(kind), byte(42 + len(number))}, distB, number, src6, grp6), 16)
	}
}

func TestLeafBytes(t *testing.T) { // P7.1, P7.2: the key, then From; of the size of the flow in its key
	for _, c := range []struct {
		key   []byte
		sizes []int
	}{
		{cat([]byte{2, 12}, distB, as), []int{4, 16}},
		{cat([]byte{3, 14}, distB, []byte{0, 0}, frm4), []int{4, 16}},
		{cat([]byte{3, 26}, distB, []byte{0, 0}, frm6), []int{4, 16}},
		{cat([]byte{3, 18}, distB, []byte{0}, grp4, frm4), []int{4}},
		{cat([]byte{3, 18}, distB, src4, []byte{0}, frm4), []int{4}},
		{cat([]byte{3, 34}, distB, src4, grp4, frm6), []int{4}},
		{cat([]byte{3, 30}, distB, []byte{0}, grp6, frm4), []int{16}},
		{cat([]byte{3, 30}, distB, src6, []byte{0}, frm4), []int{16}},
		{cat([]byte{3, 58}, distB, src6, grp6, frm6), []int{16}},
	} {
		m := api.Mroute{Kind: leaf, Key: string(c.key), From: from4}
		wantWritten(t, m, cat([]byte{4, byte(len(c.key) + 4)}, c.key, frm4), c.sizes...)
		m.From = from6
		wantWritten(t, m, cat([]byte{4, byte(len(c.key) + 16)}, c.key, frm6), c.sizes...)
	}
}

func TestOddKinds(t *testing.T) { // P7.1: one below the first, one past the last, the ends of numbers, such as would be one in a byte
	for _, kind := range oddKinds {
		wantOdd(t, api.Mroute{Kind: kind}, api.Mroute{Kind: kind, RD: dist})
		for like := 1; like <= lastKind; like++ {
			m := right(like)
			m.Kind = kind
			wantOdd(t, m)
		}
	}
}

func TestAS(t *testing.T) { // P7.1: 0 to 2^32 - 1, the highest byte first
	for _, kind := range asKinds {
		m := right(kind)
		b, _ := mroute.Bytes(m)
		for _, c := range []struct {
			as   int
			want [4]byte
		}{{0, [4]byte{}}, {1, [4]byte{0, 0, 0, 1}}, {255, [4]byte{0, 0, 0, 255}}, {65536, [4]byte{0, 1, 0, 0}}, {0x1234567, [4]byte{1, 35, 69, 103}}, {1 << 31, [4]byte{128, 0, 0, 0}}, {mostAS - 1, [4]byte{255, 255, 255, 254}}, {mostAS, [4]byte{255, 255, 255, 255}}} {
			m.AS = c.as
			copy(b[10:14], c.want[:])
			if kind == inter {
				wantWritten(t, m, b, 4, 16)
			} else {
				wantWritten(t, m, b, 4)
			}
		}
		for _, odd := range oddAS {
			m.AS = odd
			wantOdd(t, m)
		}
	}
}

func TestWhatIsNotNamed(t *testing.T) { // P7.1: each field that a kind does not name, not zero
	for kind := 1; kind <= lastKind; kind++ {
		m := right(kind)
		wantRight(t, 4, m)
		if kind == leaf {
			for i := range m.RD {
				o := m
				o.RD[i] = 1
				wantOdd(t, o)
			}
		} else {
			for _, key := range []string{"\x00", "a", right(leaf).Key, string(written(t, right(inter)))} {
				o := m
				o.Key = key
				wantOdd(t, o)
			}
		}
		wantNumberNamed(t, m)
		for _, a := range append([]api.Addr{source4, source6, group4, group6, {Size: 4}, {Size: 16}}, oddAddrs...) {
			wantAddrNamed(t, m, a)
		}
	}
}

// wantNumberNamed wants a route to have no AS, if its kind names none.
func wantNumberNamed(t *testing.T, m api.Mroute) {
	t.Helper()
	if slices.Contains(asKinds, m.Kind) {
		return
	}
	for _, number := range append([]int{1, 65000, mostAS}, oddAS...) {
		m.AS = number
		wantOdd(t, m)
	}
}

// wantAddrNamed wants a route not to have this address, where its kind names none.
func wantAddrNamed(t *testing.T, m api.Mroute, a api.Addr) {
	t.Helper()
	if !slices.Contains(flowKinds, m.Kind) {
		o := m
		o.Source = a
		wantOdd(t, o)
		o = m
		o.Group = a
		wantOdd(t, o)
		o = m
		o.Source, o.Group = source4, group4
		wantOdd(t, o)
	}
	if !slices.Contains(fromKinds, m.Kind) {
		m.From = a
		wantOdd(t, m)
	}
}

func TestDistinguishers(t *testing.T) { // P7.1: any eight bytes
	for kind := 1; kind <= lastKind; kind++ {
		for _, d := range []api.RD{{}, dist, oddDist, {255, 255, 255, 255, 255, 255, 255, 255}, {0, 1, 224, 0, 0, 1, 0, 1}, {7: 1}} {
			if m := right(kind); kind != leaf {
				m.RD = d
				b, e := mroute.Bytes(m)
				wantRight(t, 4, m)
				if e != api.OK || !bytes.Equal(b[2:10], d[:]) {
					t.Errorf("Bytes(%v): %v, %v", m, b, e)
				}
			}
		}
	}
}

func TestFrom(t *testing.T) { // P7.1: of none, of IPv4, of IPv6, one that is not right
	for _, kind := range fromKinds {
		m := right(kind)
		for _, a := range []api.Addr{from4, from6, group4, group6, {Size: 4}, {Size: 16}, {Size: 4, B: [16]byte{255, 255, 255, 255}}, {Size: 16, B: [16]byte{15: 255}}} {
			m.From = a
			wantRight(t, 4, m)
		}
		m.From = none
		wantOdd(t, m)
		for _, a := range oddAddrs {
			m.From = a
			wantOdd(t, m)
		}
	}
}

func TestFlow(t *testing.T) { // P7.1: of different sizes, a Source that is multicast, a Group that is not, one that is not right
	for _, kind := range flowKinds {
		flow := func(source, group api.Addr) api.Mroute {
			m := right(kind)
			m.Source, m.Group = source, group
			return m
		}
		wantRight(t, 4, flow(source4, group4), flow(api.Addr{Size: 4}, group4))
		wantRight(t, 16, flow(source6, group6), flow(api.Addr{Size: 16}, group6))
		wantOdd(t, flow(source4, group6), flow(source6, group4), flow(group4, group4), flow(group6, group6), flow(source4, source4), flow(source6, source6), flow(group4, source4), flow(group6, source6), flow(source4, api.Addr{Size: 4}), flow(source6, api.Addr{Size: 16}), flow(group4, group6), flow(group6, group4))
		for _, odd := range oddAddrs {
			wantOdd(t, flow(odd, group4), flow(odd, group6), flow(source4, odd), flow(source6, odd), flow(odd, odd), flow(none, odd), flow(odd, none))
		}
		for first := range 256 {
			four, six := api.Addr{Size: 4, B: [16]byte{byte(first), 9}}, api.Addr{Size: 16, B: [16]byte{byte(first), 9}}
			wantGroup(t, 4, first >= 224 && first < 240, flow(four, group4), flow(source4, four))
			wantGroup(t, 16, first == 255, flow(six, group6), flow(source6, six))
		}
	}
}

// wantGroup wants, of the route with an address as its source and the one with it as its group, just one to be right.
func wantGroup(t *testing.T, size int, group bool, asSource, asGroup api.Mroute) {
	t.Helper()
	if group {
		wantOdd(t, asSource)
		wantRight(t, size, asGroup)
	} else {
		wantRight(t, size, asSource)
		wantOdd(t, asGroup)
	}
}

func TestFullFlows(t *testing.T) { // P7.1: of RouteActive, RouteShared and RouteTree neither may be none
	for _, kind := range fullKinds {
		for _, flow := range [][2]api.Addr{{}, {source4, none}, {source6, none}, {none, group4}, {none, group6}, {group4, none}, {none, source4}} {
			m := right(kind)
			m.Source, m.Group = flow[0], flow[1]
			wantOdd(t, m)
		}
	}
}

func TestSelects(t *testing.T) { // P7.1, P7.2: with Source none, with Group none, with both none
	m := api.Mroute{Kind: selected, RD: dist, From: from4}
	wantWritten(t, m, cat([]byte{3, 14}, distB, []byte{0, 0}, frm4), 4, 16)
	flow := func(source, group api.Addr) api.Mroute {
		m.Source, m.Group = source, group
		return m
	}
	wantWritten(t, flow(none, group4), cat([]byte{3, 18}, distB, []byte{0}, grp4, frm4), 4)
	wantWritten(t, flow(none, group6), cat([]byte{3, 30}, distB, []byte{0}, grp6, frm4), 16)
	wantWritten(t, flow(source4, none), cat([]byte{3, 18}, distB, src4, []byte{0}, frm4), 4)
	wantWritten(t, flow(source6, none), cat([]byte{3, 30}, distB, src6, []byte{0}, frm4), 16)
	wantOdd(t, flow(none, source4), flow(none, source6), flow(group4, none), flow(group6, none))
	for first := range 256 {
		four, six := api.Addr{Size: 4, B: [16]byte{byte(first)}}, api.Addr{Size: 16, B: [16]byte{byte(first)}}
		wantGroup(t, 4, first >= 224 && first < 240, flow(four, none), flow(none, four))
		wantGroup(t, 16, first == 255, flow(six, none), flow(none, six))
	}
}

func TestKeys(t *testing.T) { // P7.1: the bytes of a route of each kind, one byte more or less, none
	for kind := 1; kind <= lastKind; kind++ {
		b, _ := mroute.Bytes(right(kind))
		m := api.Mroute{Kind: leaf, From: from4, Key: string(b)}
		if kind != inter && kind != selected {
			wantOdd(t, m)
			continue
		}
		wantRight(t, 4, m)
		for n := range b {
			m.Key = string(b[:n])
			wantOdd(t, m)
			m.Key = string(b[n+1:])
			wantOdd(t, m)
		}
		for _, more := range []string{"\x00", "\x01", "\xff", "\x00\x00\x00\x00", string(b), string(b[2:])} {
			m.Key = string(b) + more
			wantOdd(t, m)
			m.Key = more + string(b)
			wantOdd(t, m)
		}
	}
}

func TestOddKeys(t *testing.T) { // P7.1: of no bytes, of a leaf, of a route that is not right, of very many bytes
	m := right(leaf)
	key := m.Key
	for _, from := range []api.Addr{from4, from6} {
		m.From = from
		for _, odd := range []string{"", "\x02", "\x03", "\x02\x00", "\x03\x00", "\x00\x00", "\x04\x00", "\x04\x10\x02\x0c" + string(distB) + string(as), key + key, string(make([]byte, 14)), string(bytes.Repeat([]byte{3}, 253)), string(bytes.Repeat([]byte{2}, 1<<16)), string(bytes.Repeat([]byte{4, 255}, 1<<16)), string(cat([]byte{2, 12}, distB, as, make([]byte, 256)))} {
			m.Key = odd
			wantOdd(t, m)
		}
		b, _ := mroute.Bytes(right(leaf))
		m.Key = string(b)
		wantOdd(t, m)
		for second := range 256 {
			if m.Key = key[:1] + string([]byte{byte(second)}) + key[2:]; m.Key != key {
				wantOdd(t, m)
			}
		}
	}
	for at := range key { // where another byte makes no other route that is right
		if at == 0 || at == 1 || at == 10 || at == 15 || at == 16 {
			m.Key = key[:at] + "\x64" + key[at+1:]
			wantOdd(t, m)
		}
	}
}
