package community_test

import (
	"encoding/binary"
	"math"
	"testing"

	"vinery/api"
	"vinery/community"
)

var (
	_ func(kind, high, low int) (api.Ext, api.Errno) = community.Target
	_ func(api.Addr, int) (api.Ext, api.Errno)       = community.Import
	_ func(int) (api.Ext, api.Errno)                 = community.Source
	_ func(api.Ext) int                              = community.Kind
	_ func(api.Ext) (api.Addr, int, bool)            = community.Importer
	_ func(api.Ext) (int, bool)                      = community.AS
)

// The greatest numbers of two bytes, and of four.
const (
	top2 = 1<<16 - 1
	top4 = 1<<32 - 1
)

// kinds are those of targets, and the greatest HIGH and LOW of each.
var kinds = []struct{ kind, high, low int }{{0, top2, top4}, {1, top4, top2}, {2, top4, top2}}

// oddKinds are numbers of no kind of targets, also such as one byte or two can't hold.
var oddKinds = []int{math.MinInt, -1 << 32, -65536, -256, -254, -3, -2, -1, 3, 4, 9, 11, 128, 255, 256, 257, 258, 512, 65535, 65536, 65537, 65538, 1 << 32, 1<<32 + 1, 1<<32 + 2, math.MaxInt}

// oddNumbers fit into no two bytes and no four.
var oddNumbers = []int{math.MinInt, math.MinInt + 1, -1 << 32, -1 << 31, -65536, -65535, -2, -1, 1 << 32, 1<<32 + 1, 1 << 33, 1 << 48, 1 << 62, math.MaxInt - 1, math.MaxInt}

// edges are numbers that fit into two bytes or into four.
var edges = []int{0, 1, 2, 9, 10, 99, 100, 127, 128, 255, 256, 257, 32767, 32768, 65534, 65535, 65536, 65537, 1<<24 - 1, 1 << 24, 167772161, 1<<31 - 1, 1 << 31, 4200000000, 1<<32 - 2, 1<<32 - 1}

// rests are what stands behind the first two bytes.
var rests = [][6]byte{{}, {0, 0, 0, 0, 0, 1}, {0, 0, 0, 0, 1, 0}, {1, 2, 3, 4, 0, 0}, {1, 2, 3, 4, 5, 6}, {10, 0, 0, 1, 0, 3}, {255, 255, 255, 255, 0, 0}, {255, 255, 255, 255, 255, 255}}

// with is the community of two bytes and those behind them.
func with(first, second int, rest [6]byte) api.Ext {
	e := api.Ext{byte(first), byte(second)}
	copy(e[2:], rest[:])
	return e
}

// four is an address of IPv4.
func four(a, b, c, d byte) api.Addr { return api.Addr{Size: 4, B: [16]byte{a, b, c, d}} }

// targetOf are the bytes that the chapter's words give to a target.
func targetOf(kind, high, low int) api.Ext {
	e := api.Ext{byte(kind), 2}
	if kind == 0 {
		binary.BigEndian.PutUint16(e[2:], uint16(high))
		binary.BigEndian.PutUint32(e[4:], uint32(low))
		return e
	}
	binary.BigEndian.PutUint32(e[2:], uint32(high))
	binary.BigEndian.PutUint16(e[6:], uint16(low))
	return e
}

// wantMade wants this one to be made.
func wantMade(t *testing.T, call string, e api.Ext, errno api.Errno, want api.Ext) {
	t.Helper()
	if errno != api.OK || e != want {
		t.Errorf("%s: %v, %v, want %v", call, e, errno, want)
	}
}

// wantNone wants none to be made.
func wantNone(t *testing.T, call string, e api.Ext, errno, want api.Errno) {
	t.Helper()
	if errno != want || e != (api.Ext{}) {
		t.Errorf("%s: %v, %v, want the error %v", call, e, errno, want)
	}
}

func TestTargetBytes(t *testing.T) { // P4.1: which bytes it has
	for _, c := range []struct {
		kind, high, low int
		want            api.Ext
	}{
		{0, 0, 0, api.Ext{0, 2}},
		{1, 0, 0, api.Ext{1, 2}},
		{2, 0, 0, api.Ext{2, 2}},
		{0, 0x0102, 0x03040506, api.Ext{0, 2, 1, 2, 3, 4, 5, 6}},
		{1, 0x01020304, 0x0506, api.Ext{1, 2, 1, 2, 3, 4, 5, 6}},
		{2, 0x01020304, 0x0506, api.Ext{2, 2, 1, 2, 3, 4, 5, 6}},
		{0, 65000, 77, api.Ext{0, 2, 253, 232, 0, 0, 0, 77}},
		{0, top2, top4, api.Ext{0, 2, 255, 255, 255, 255, 255, 255}},
		{1, 167772161, 7, api.Ext{1, 2, 10, 0, 0, 1, 0, 7}},
		{2, 4200000000, 7, api.Ext{2, 2, 250, 86, 234, 0, 0, 7}},
	} {
		e, errno := community.Target(c.kind, c.high, c.low)
		wantMade(t, "Target", e, errno, c.want)
	}
}

func TestTargetEdges(t *testing.T) { // P4.1, P4.7: HIGH and LOW on both sides of what their bytes hold
	for _, k := range kinds {
		for _, high := range edges {
			for _, low := range edges {
				e, errno := community.Target(k.kind, high, low)
				if high > k.high || low > k.low {
					wantNone(t, "Target", e, errno, api.ErrNum)
					continue
				}
				wantMade(t, "Target", e, errno, targetOf(k.kind, high, low))
				if kind := community.Kind(e); kind != api.ExtTarget {
					t.Errorf("Kind of %v: %d", e, kind)
				}
			}
		}
		for _, odd := range append([]int{max(k.high, k.low) + 1}, oddNumbers...) {
			for _, n := range []int{0, 1, top2, odd} {
				e, errno := community.Target(k.kind, odd, n)
				wantNone(t, "Target", e, errno, api.ErrNum)
				e, errno = community.Target(k.kind, n, odd)
				wantNone(t, "Target", e, errno, api.ErrNum)
			}
		}
	}
}

func TestTargetOddKinds(t *testing.T) { // P4.1, W4: the kind is told ahead of the numbers
	for _, kind := range oddKinds {
		for _, n := range append([]int{0, 7, top2, top2 + 1, top4}, oddNumbers...) {
			for _, pair := range [][2]int{{n, 0}, {0, n}, {n, n}} {
				e, errno := community.Target(kind, pair[0], pair[1])
				wantNone(t, "Target", e, errno, api.ErrArg)
			}
		}
	}
}

func TestImport(t *testing.T) { // P4.1, P4.2, P4.7
	for _, a := range []api.Addr{four(0, 0, 0, 0), four(10, 0, 0, 1), four(1, 2, 3, 4), four(255, 255, 255, 255), four(224, 0, 0, 1), four(0, 0, 0, 1), four(128, 0, 0, 0)} {
		for _, n := range []int{0, 1, 3, 255, 256, 258, 32767, 32768, 65534, 65535} {
			e, errno := community.Import(a, n)
			wantMade(t, "Import", e, errno, api.Ext{1, 11, a.B[0], a.B[1], a.B[2], a.B[3], byte(n >> 8), byte(n)})
			if kind := community.Kind(e); kind != api.ExtImport {
				t.Errorf("Kind of %v: %d", e, kind)
			}
			if back, m, ok := community.Importer(e); back != a || m != n || !ok {
				t.Errorf("Importer of %v: %v, %d, %v", e, back, m, ok)
			}
		}
		for _, n := range append([]int{65536, 65537, 131072, top4}, oddNumbers...) {
			e, errno := community.Import(a, n)
			wantNone(t, "Import", e, errno, api.ErrNum)
		}
	}
}

func TestImportOddAddresses(t *testing.T) { // P4.1, W4: the address is told ahead of the number
	odd := []api.Addr{
		{}, {Size: 16}, {Size: 16, B: [16]byte{10, 0, 0, 1}}, {Size: 16, B: [16]byte{15: 1}}, // none, IPv6
		{Size: 16, B: [16]byte{10: 255, 11: 255, 12: 10, 15: 1}},
		{Size: 4, B: [16]byte{4: 1}}, {Size: 4, B: [16]byte{10, 0, 0, 1, 1}}, {Size: 4, B: [16]byte{10, 0, 0, 1, 15: 1}}, // not right
		{B: [16]byte{10, 0, 0, 1}}, {B: [16]byte{15: 1}},
	}
	for _, size := range []int{math.MinInt, -16, -4, -1, 1, 2, 3, 5, 6, 8, 12, 15, 17, 32, 260, 1<<32 + 4, math.MaxInt} {
		odd = append(odd, api.Addr{Size: size}, api.Addr{Size: size, B: [16]byte{10, 0, 0, 1}})
	}
	for _, a := range odd {
		for _, n := range append([]int{0, 3, 65535, 65536}, oddNumbers...) {
			e, errno := community.Import(a, n)
			wantNone(t, "Import", e, errno, api.ErrArg)
		}
	}
}

func TestSource(t *testing.T) { // P4.1, P4.2, P4.7
	for _, as := range append([]int{65000, 64512}, edges...) {
		want := api.Ext{2, 9}
		binary.BigEndian.PutUint32(want[2:], uint32(as))
		e, errno := community.Source(as)
		wantMade(t, "Source", e, errno, want)
		if kind := community.Kind(e); kind != api.ExtSource {
			t.Errorf("Kind of %v: %d", e, kind)
		}
		if back, ok := community.AS(e); back != as || !ok {
			t.Errorf("AS of %v: %d, %v", e, back, ok)
		}
	}
	for _, as := range oddNumbers {
		e, errno := community.Source(as)
		wantNone(t, "Source", e, errno, api.ErrNum)
	}
}

// kindOf is what the chapter's words say that one is.
func kindOf(e api.Ext) int {
	switch binary.BigEndian.Uint16(e[:]) {
	case 0x0002, 0x0102, 0x0202:
		return api.ExtTarget
	case 0x010B:
		return api.ExtImport
	case 0x0209:
		if binary.BigEndian.Uint16(e[6:]) == 0 {
			return api.ExtSource
		}
	}
	return api.ExtOther
}

// wantTold wants all calls to tell of one what its bytes are.
func wantTold(t *testing.T, e api.Ext) {
	t.Helper()
	kind := kindOf(e)
	if got := community.Kind(e); got != kind {
		t.Fatalf("Kind of %v: %d, want %d", e, got, kind)
	}
	var a api.Addr
	var n, as int
	if kind == api.ExtImport {
		a, n = four(e[2], e[3], e[4], e[5]), int(binary.BigEndian.Uint16(e[6:]))
	}
	if kind == api.ExtSource {
		as = int(binary.BigEndian.Uint32(e[2:]))
	}
	if gotA, gotN, ok := community.Importer(e); gotA != a || gotN != n || ok != (kind == api.ExtImport) {
		t.Fatalf("Importer of %v: %v, %d, %v", e, gotA, gotN, ok)
	}
	if got, ok := community.AS(e); got != as || ok != (kind == api.ExtSource) {
		t.Fatalf("AS of %v: %d, %v", e, got, ok)
	}
}

func TestKindCrosswise(t *testing.T) { // P4.2: each first byte with each second one
	for first := range 256 {
		for second := range 256 {
			for _, rest := range rests {
				wantTold(t, with(first, second, rest))
			}
		}
	}
}

func TestKindByExample(t *testing.T) { // P4.2: the same, without the model
	for _, first := range []int{0, 1, 2, 3, 64, 128, 255} {
		for _, second := range []int{0, 1, 2, 3, 8, 9, 10, 11, 12, 130, 137, 139, 255} {
			want := api.ExtOther
			switch {
			case second == 2 && first < 3:
				want = api.ExtTarget
			case first == 1 && second == 11:
				want = api.ExtImport
			case first == 2 && second == 9:
				want = api.ExtSource
			}
			if got := community.Kind(with(first, second, [6]byte{1, 2, 3, 4})); got != want {
				t.Errorf("Kind of %d %d: %d, want %d", first, second, got, want)
			}
		}
	}
	if got := community.Kind(api.Ext{0, 9, 253, 232}); got != api.ExtOther {
		t.Errorf("0 9: %d", got)
	}
}

func TestSourceNumber(t *testing.T) { // P4.2: just with the number 0 it is one
	for n := range 1 << 16 {
		e := api.Ext{2, 9, 0, 0, 253, 232, byte(n >> 8), byte(n)}
		wantTold(t, e)
		if got, ok := community.AS(e); n != 0 && (got != 0 || ok) {
			t.Fatalf("AS of %v: %d, %v", e, got, ok)
		}
	}
}
