package uroute_test

import (
	"bytes"
	"math"
	"slices"
	"testing"

	"vinery/api"
	"vinery/uroute"
)

var (
	_ func(api.Uroute) bool                                 = uroute.Right
	_ func(api.Uroute) ([]byte, api.Errno)                  = uroute.Bytes
	_ func(b []byte, size int) (api.Uroute, int, api.Errno) = uroute.Take
	_ func(...api.Uroute) ([]byte, api.Errno)               = uroute.Row
	_ func(b []byte, size int) ([]api.Uroute, api.Errno)    = uroute.ReadRow
	_ func(a, b api.Uroute) int                             = uroute.Compare
	_ func(a, b api.Uroute) bool                            = uroute.Same
	_ func(api.Uroute) string                               = uroute.Text
)

// The greatest label, as the document tells it.
const mostLabel = 1048575

// Distinguishers, one that is not known among them, and those that are all alike.
var (
	dist    = api.RD{0, 0, 0, 1, 0, 0, 0, 1}
	oddDist = api.RD{0, 9, 255, 254, 253, 252, 251, 250}
	allDist = api.RD{255, 255, 255, 255, 255, 255, 255, 255}
	dists   = []api.RD{{}, dist, {0, 1, 10, 0, 0, 9, 0, 7}, {0, 2, 250, 86, 234, 0, 0, 7}, oddDist, allDist, {7: 1}}
)

// Labels that may be, and that may not.
var (
	labels    = []int{0, 1, 3, 15, 16, 17, 255, 256, 4095, 4096, 65535, 65536, 1 << 19, mostLabel - 1, mostLabel}
	oddLabels = []int{-1, -2, -16, mostLabel + 1, mostLabel + 2, mostLabel + 17, 1 << 24, 1 << 32, 1<<32 + 16, 1 << 44, 1 << 60, 1<<62 + 16, -1 << 20, -1 << 32, math.MinInt, math.MinInt + 16, math.MaxInt - 1, math.MaxInt}
)

// v4 and v6 are addresses of so many first bytes, 0 behind them.
func v4(b ...byte) api.Addr { return first(4, b) }
func v6(b ...byte) api.Addr { return first(16, b) }

func first(size int, b []byte) api.Addr {
	a := api.Addr{Size: size}
	copy(a.B[:size], b)
	return a
}

// full is an address, or what is like one, whose first bits are 1 and the others 0.
func full(size, bits int) api.Addr {
	a := api.Addr{Size: size}
	for i := range bits {
		a.B[i/8] |= 128 >> (i % 8)
	}
	return a
}

// prefix is one of an address and a number of bits, right or not.
func prefix(a api.Addr, bits int) api.Prefix { return api.Prefix{Addr: a, Bits: bits} }

// rightPrefixes are some of each number of bits, of both sizes.
func rightPrefixes() []api.Prefix {
	l := []api.Prefix{prefix(v4(10, 1), 16), prefix(v4(10), 8), prefix(v4(224), 4), prefix(v6(32, 1, 13, 184), 32), prefix(v6(254, 128), 10)}
	for _, size := range []int{4, 16} {
		for bits := range 8*size + 1 {
			l = append(l, prefix(full(size, bits), bits), prefix(api.Addr{Size: size}, bits))
		}
	}
	return l
}

// oddPrefixes are some that are not right, each in one thing alone.
func oddPrefixes() []api.Prefix {
	l := []api.Prefix{{}, prefix(api.Addr{}, 1), prefix(api.Addr{}, 32), prefix(api.Addr{}, -1)}
	for _, size := range []int{4, 16} {
		all := 8 * size
		for _, bits := range []int{-1, -8, -88, all + 1, all + 2, all + 7, all + 8, 168, 256, 256 + 8, 256 - 88, 1<<32 + 8, 1 << 62, math.MinInt, math.MinInt + 8, math.MaxInt - 87, math.MaxInt} {
			l = append(l, prefix(api.Addr{Size: size}, bits), prefix(full(size, all), bits))
		}
		for bits := range all { // with one bit behind its bits that is not 0, next to them, in their byte, at the end
			for _, at := range []int{bits, (bits+8)/8*8 - 1, all - 1} {
				a := full(size, bits)
				a.B[at/8] |= 128 >> (at % 8)
				l = append(l, prefix(a, bits))
			}
		}
	}
	for at := 4; at < 16; at++ { // with a byte behind a small address, behind none
		for _, bits := range []int{0, 8, 31, 32} {
			a := full(4, bits)
			a.B[at] = 1
			l = append(l, prefix(a, bits))
		}
		a := api.Addr{}
		a.B[at] = 1
		l = append(l, prefix(a, 0))
	}
	for _, size := range []int{1, 2, 3, 5, 8, 12, 15, 17, 32, -1, -4, -16, 256, 260, 272, 1<<32 + 4, 1<<32 + 16, math.MinInt, math.MinInt + 4, math.MaxInt} {
		l = append(l, prefix(api.Addr{Size: size}, 0), prefix(api.Addr{Size: size, B: [16]byte{10}}, 8))
	}
	return l
}

// rights are some routes that are, of both sizes.
func rights() []api.Uroute {
	l := []api.Uroute{}
	for i, p := range rightPrefixes() {
		l = append(l, api.Uroute{RD: dists[i%len(dists)], Prefix: p, Label: labels[i%len(labels)]})
	}
	for _, p := range []api.Prefix{prefix(v4(10, 1), 16), prefix(v6(32, 1, 13, 184), 33)} {
		for _, d := range dists {
			for _, n := range labels {
				l = append(l, api.Uroute{RD: d, Prefix: p, Label: n})
			}
		}
	}
	return l
}

// odds are some that are not right, each in one thing alone, and in more than one.
func odds() []api.Uroute {
	l := []api.Uroute{{}, {RD: dist}, {RD: dist, Label: 16}}
	for i, p := range oddPrefixes() {
		l = append(l, api.Uroute{RD: dists[i%len(dists)], Prefix: p, Label: labels[i%len(labels)]})
	}
	for i, n := range oddLabels {
		for _, p := range []api.Prefix{prefix(v4(10, 1), 16), prefix(v4(), 0), prefix(full(4, 32), 32), prefix(full(16, 128), 128), oddPrefixes()[i]} {
			l = append(l, api.Uroute{RD: dist, Prefix: p, Label: n})
		}
	}
	return l
}

// cat are rows of bytes, one behind another.
func cat(l ...[]byte) []byte { return slices.Concat(l...) }

// written are the bytes of a route that is right.
func written(t *testing.T, u api.Uroute) []byte {
	t.Helper()
	b, e := uroute.Bytes(u)
	if e != api.OK || !uroute.Right(u) {
		t.Fatalf("Bytes(%v): %v, right %v", u, e, uroute.Right(u))
	}
	return b
}

// wantWritten wants a route to be right, to be these bytes, and these bytes to be it.
func wantWritten(t *testing.T, u api.Uroute, want ...byte) {
	t.Helper()
	if !uroute.Right(u) {
		t.Errorf("Right(%v): false", u)
	}
	if b, e := uroute.Bytes(u); e != api.OK || !bytes.Equal(b, want) {
		t.Errorf("Bytes(%v): %v, %v, want %v", u, b, e, want)
	}
	wantTaken(t, want, u.Prefix.Addr.Size, u, len(want))
}

// wantOdd wants routes not to be right, and none to be written.
func wantOdd(t *testing.T, l ...api.Uroute) {
	t.Helper()
	for _, u := range l {
		if uroute.Right(u) {
			t.Errorf("Right(%v): true", u)
		}
		if b, e := uroute.Bytes(u); e != api.ErrArg || len(b) != 0 {
			t.Errorf("Bytes(%v): %v, %v, want ErrArg", u, b, e)
		}
	}
}

func TestBytes(t *testing.T) { // P8.1: how many bits follow, the label, the distinguisher, as many bytes as hold the prefix
	wantWritten(t, api.Uroute{RD: dist, Prefix: prefix(v4(10, 1), 16), Label: 16}, 104, 0, 1, 1, 0, 0, 0, 1, 0, 0, 0, 1, 10, 1)
	wantWritten(t, api.Uroute{RD: oddDist, Prefix: prefix(v4(), 0), Label: 0}, 88, 0, 0, 1, 0, 9, 255, 254, 253, 252, 251, 250)
	wantWritten(t, api.Uroute{Prefix: prefix(v6(), 0), Label: mostLabel}, 88, 255, 255, 241, 0, 0, 0, 0, 0, 0, 0, 0)
	wantWritten(t, api.Uroute{RD: dist, Prefix: prefix(v4(128), 1), Label: 1}, 89, 0, 0, 17, 0, 0, 0, 1, 0, 0, 0, 1, 128)
	wantWritten(t, api.Uroute{RD: dist, Prefix: prefix(v4(10, 1, 128), 17), Label: 0x12345}, 105, 0x12, 0x34, 0x51, 0, 0, 0, 1, 0, 0, 0, 1, 10, 1, 128)
	wantWritten(t, api.Uroute{RD: dist, Prefix: prefix(v4(10), 24), Label: 16}, 112, 0, 1, 1, 0, 0, 0, 1, 0, 0, 0, 1, 10, 0, 0)
	wantWritten(t, api.Uroute{RD: dist, Prefix: prefix(v4(10, 1, 2, 254), 31), Label: 16}, 119, 0, 1, 1, 0, 0, 0, 1, 0, 0, 0, 1, 10, 1, 2, 254)
	wantWritten(t, api.Uroute{RD: dist, Prefix: prefix(v4(10, 1, 2, 3), 32), Label: 16}, 120, 0, 1, 1, 0, 0, 0, 1, 0, 0, 0, 1, 10, 1, 2, 3)
	wantWritten(t, api.Uroute{RD: dist, Prefix: prefix(v6(32, 1, 13, 184, 128), 33), Label: 16}, 121, 0, 1, 1, 0, 0, 0, 1, 0, 0, 0, 1, 32, 1, 13, 184, 128)
	wantWritten(t, api.Uroute{RD: dist, Prefix: prefix(v6(1, 2, 3, 4, 5, 6, 7, 8, 9, 10, 11, 12, 13, 14, 15, 16), 128), Label: 16}, 216, 0, 1, 1, 0, 0, 0, 1, 0, 0, 0, 1, 1, 2, 3, 4, 5, 6, 7, 8, 9, 10, 11, 12, 13, 14, 15, 16)
}

func TestPrefixes(t *testing.T) { // P8.1: of each number of bits, of both sizes
	for _, p := range rightPrefixes() {
		u := api.Uroute{RD: dist, Prefix: p, Label: 16}
		held := p.Bits / 8
		if p.Bits%8 > 0 {
			held++
		}
		wantWritten(t, u, cat([]byte{byte(88 + p.Bits), 0, 1, 1}, dist[:], p.Addr.B[:held])...)
	}
}

func TestOddPrefixes(t *testing.T) { // P8.1: of no address, of a size that is none, with bits behind its own, with too many
	for _, p := range oddPrefixes() {
		for _, d := range []api.RD{{}, dist, allDist} {
			wantOdd(t, api.Uroute{RD: d, Prefix: p}, api.Uroute{RD: d, Prefix: p, Label: 16}, api.Uroute{RD: d, Prefix: p, Label: mostLabel})
		}
	}
}

func TestLabels(t *testing.T) { // P8.1: 0 to MaxLabel, those below MinLabel too
	for _, p := range []api.Prefix{prefix(v4(10, 1), 16), prefix(v4(), 0), prefix(full(4, 32), 32), prefix(v6(), 0), prefix(full(16, 128), 128)} {
		for _, n := range labels {
			u := api.Uroute{RD: dist, Prefix: p, Label: n}
			b := written(t, u)
			wantWritten(t, u, b...)
			if got := int(b[1])<<16 | int(b[2])<<8 | int(b[3]); got != 16*n+1 {
				t.Errorf("Bytes(%v): %v, label %d", u, b, got)
			}
		}
		for _, n := range oddLabels {
			wantOdd(t, api.Uroute{RD: dist, Prefix: p, Label: n}, api.Uroute{Prefix: p, Label: n})
		}
	}
}

func TestDistinguishers(t *testing.T) { // P8.1: any eight bytes
	for _, d := range dists {
		wantWritten(t, api.Uroute{RD: d, Prefix: prefix(v4(10, 1), 16), Label: 16}, cat([]byte{104, 0, 1, 1}, d[:], []byte{10, 1})...)
	}
	for at := range 8 {
		for n := range 256 {
			u := api.Uroute{Prefix: prefix(v6(32, 1), 20), Label: 16}
			u.RD[at] = byte(n)
			wantWritten(t, u, cat([]byte{108, 0, 1, 1}, u.RD[:], []byte{32, 1, 0})...)
		}
	}
}

func TestOdds(t *testing.T) { // P8.1
	wantOdd(t, odds()...)
}
