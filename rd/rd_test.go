package rd_test

import (
	"encoding/binary"
	"math"
	"testing"

	"vinery/api"
	"vinery/rd"
)

var (
	_ func(kind, high, low int) (api.RD, api.Errno) = rd.Make
	_ func(api.RD) (int, int, int, bool)            = rd.Parts
)

// The greatest numbers of two bytes, and of four.
const (
	top2 = 1<<16 - 1
	top4 = 1<<32 - 1
)

// kinds are those that are known, and the greatest HIGH and LOW of each.
var kinds = []struct{ kind, high, low int }{
	{api.RDShort, top2, top4},
	{api.RDAddr, top4, top2},
	{api.RDLong, top4, top2},
}

// oddKinds are numbers of no kind that is known, also of none that two bytes can hold.
var oddKinds = []int{math.MinInt, -1 << 32, -65536, -256, -3, -2, -1, 3, 4, 9, 128, 255, 256, 257, 258, 512, 32768, 65535, 65536, 65537, 65538, 1 << 32, 1<<32 + 1, 1<<32 + 2, math.MaxInt}

// oddNumbers fit into no two bytes and no four.
var oddNumbers = []int{math.MinInt, math.MinInt + 1, -1 << 32, -1 << 31, -65536, -65535, -2, -1, 1 << 32, 1<<32 + 1, 1 << 33, 1 << 48, 1 << 62, math.MaxInt - 1, math.MaxInt}

// edges are numbers that fit into two bytes or into four.
var edges = []int{0, 1, 2, 9, 10, 99, 100, 127, 128, 255, 256, 257, 32767, 32768, 65534, 65535, 65536, 65537, 1<<24 - 1, 1 << 24, 167772161, 1<<31 - 1, 1 << 31, 4200000000, 1<<32 - 2, 1<<32 - 1}

// bytesOf are the bytes that the chapter's words give to a kind and its numbers.
func bytesOf(kind, high, low int) api.RD {
	var d api.RD
	binary.BigEndian.PutUint16(d[:], uint16(kind))
	if kind == api.RDShort {
		binary.BigEndian.PutUint16(d[2:], uint16(high))
		binary.BigEndian.PutUint32(d[4:], uint32(low))
		return d
	}
	binary.BigEndian.PutUint32(d[2:], uint32(high))
	binary.BigEndian.PutUint16(d[6:], uint16(low))
	return d
}

// make1 is one that can be made.
func make1(t *testing.T, kind, high, low int) api.RD {
	t.Helper()
	d, e := rd.Make(kind, high, low)
	if e != api.OK {
		t.Fatalf("Make(%d, %d, %d): %v", kind, high, low, e)
	}
	return d
}

// wantNone wants none to be made.
func wantNone(t *testing.T, kind, high, low int, want api.Errno) {
	t.Helper()
	if d, e := rd.Make(kind, high, low); e != want || d != (api.RD{}) {
		t.Errorf("Make(%d, %d, %d): %v, %v, want %v", kind, high, low, d, e, want)
	}
}

func TestMakeBytes(t *testing.T) { // P3.1: which bytes they are
	for _, c := range []struct {
		kind, high, low int
		want            api.RD
	}{
		{0, 0, 0, api.RD{}},
		{0, 0x0102, 0x03040506, api.RD{0, 0, 1, 2, 3, 4, 5, 6}},
		{1, 0x01020304, 0x0506, api.RD{0, 1, 1, 2, 3, 4, 5, 6}},
		{2, 0x01020304, 0x0506, api.RD{0, 2, 1, 2, 3, 4, 5, 6}},
		{0, 65000, 77, api.RD{0, 0, 253, 232, 0, 0, 0, 77}},
		{1, 167772161, 7, api.RD{0, 1, 10, 0, 0, 1, 0, 7}},
		{0, top2, 0, api.RD{0, 0, 255, 255}},
		{0, 0, top4, api.RD{0, 0, 0, 0, 255, 255, 255, 255}},
		{1, top4, 0, api.RD{0, 1, 255, 255, 255, 255}},
		{2, 0, top2, api.RD{0, 2, 0, 0, 0, 0, 255, 255}},
	} {
		if d := make1(t, c.kind, c.high, c.low); d != c.want {
			t.Errorf("Make(%d, %d, %d): %v, want %v", c.kind, c.high, c.low, d, c.want)
		}
	}
}

func TestMakeEdges(t *testing.T) { // P3.1, P3.4: at and behind the greatest number that each place holds
	for _, k := range kinds {
		for _, high := range edges {
			for _, low := range edges {
				if high > k.high || low > k.low {
					wantNone(t, k.kind, high, low, api.ErrNum)
					continue
				}
				d := make1(t, k.kind, high, low)
				if d != bytesOf(k.kind, high, low) {
					t.Errorf("Make(%d, %d, %d): %v", k.kind, high, low, d)
				}
				if kind, h, l, ok := rd.Parts(d); kind != k.kind || h != high || l != low || !ok {
					t.Errorf("Parts(%v): %d, %d, %d, %v, want %d, %d, %d", d, kind, h, l, ok, k.kind, high, low)
				}
			}
		}
	}
}

func TestMakeOddNumbers(t *testing.T) { // P3.1
	for _, k := range kinds {
		for _, odd := range append([]int{k.high + 1}, oddNumbers...) {
			wantNone(t, k.kind, odd, 0, api.ErrNum)
			wantNone(t, k.kind, odd, k.low, api.ErrNum)
		}
		for _, odd := range append([]int{k.low + 1}, oddNumbers...) {
			wantNone(t, k.kind, 0, odd, api.ErrNum)
			wantNone(t, k.kind, k.high, odd, api.ErrNum)
			wantNone(t, k.kind, odd, odd, api.ErrNum)
		}
	}
}

func TestMakeOddKinds(t *testing.T) { // P3.1, W4: the kind is told ahead of the numbers
	for _, kind := range oddKinds {
		for _, n := range append([]int{0, 7, top2, top2 + 1, top4}, oddNumbers...) {
			wantNone(t, kind, 0, n, api.ErrArg)
			wantNone(t, kind, n, 0, api.ErrArg)
			wantNone(t, kind, n, n, api.ErrArg)
		}
	}
}

func TestPartsOfEachKind(t *testing.T) { // P3.1, P3.4: each number that two bytes can be, as the kind
	for kind := range 1 << 16 {
		for _, rest := range [][6]byte{{}, {0, 0, 0, 0, 0, 1}, {1, 2, 3, 4, 5, 6}, {255, 255, 255, 255, 255, 255}} {
			d := api.RD{byte(kind >> 8), byte(kind)}
			copy(d[2:], rest[:])
			k, high, low, ok := rd.Parts(d)
			if kind > 2 {
				if k != 0 || high != 0 || low != 0 || ok {
					t.Fatalf("%v: %d, %d, %d, %v", d, k, high, low, ok)
				}
				continue
			}
			if k != kind || !ok || bytesOf(k, high, low) != d {
				t.Fatalf("%v: %d, %d, %d, %v", d, k, high, low, ok)
			}
			if again := make1(t, k, high, low); again != d {
				t.Fatalf("%v: made again: %v", d, again)
			}
		}
	}
}
