package uroute_test

import (
	"bytes"
	"math"
	"slices"
	"testing"

	"vinery/api"
	"vinery/uroute"
)

// oddSizes are none of a route.
var oddSizes = []int{0, 1, 2, 3, 5, 6, 8, 12, 15, 17, 20, 32, 64, 128, 256, 260, -1, -4, -16, 1<<32 + 4, 1<<32 + 16, math.MinInt, math.MinInt + 4, math.MaxInt}

// wantTaken wants a route to be taken at the front of bytes.
func wantTaken(t *testing.T, b []byte, size int, want api.Uroute, n int) {
	t.Helper()
	if u, got, e := uroute.Take(b, size); e != api.OK || u != want || got != n {
		t.Errorf("Take(%v, %d): %v, %d, %v, want %v, %d", b, size, u, got, e, want, n)
	}
}

// wantUntaken wants bytes to be refused, and nothing else to be told of them.
func wantUntaken(t *testing.T, b []byte, size int, want api.Errno) {
	t.Helper()
	if u, n, e := uroute.Take(b, size); e != want || n != 0 || u != (api.Uroute{}) {
		t.Errorf("Take(%v, %d): %v, %d, %v, want %v", b, size, u, n, e, want)
	}
}

// changed are bytes with another one in a place.
func changed(b []byte, at int, n byte) []byte {
	b = slices.Clone(b)
	b[at] = n
	return b
}

func TestTakeOddSizes(t *testing.T) { // P8.2: ahead of what the bytes are
	for _, size := range oddSizes {
		for _, b := range [][]byte{nil, {}, {0}, {88}, {255}, {104, 0, 1, 1}, make([]byte, 12)} {
			wantUntaken(t, b, size, api.ErrArg)
		}
		for _, u := range rights() {
			wantUntaken(t, written(t, u), size, api.ErrArg)
		}
	}
}

func TestTakeNoByte(t *testing.T) { // P8.2
	for _, size := range []int{4, 16} {
		wantUntaken(t, nil, size, api.ErrEnd)
		wantUntaken(t, []byte{}, size, api.ErrEnd)
		wantUntaken(t, append([]byte{0, 1}, 88)[:0], size, api.ErrEnd) // what stands in spare room is not read
	}
}

func TestTakeFirstByte(t *testing.T) { // P8.2: each: with as many bytes as it says, with fewer, with more
	for bits := range 256 {
		follow := bits / 8
		if bits%8 > 0 {
			follow++
		}
		b := make([]byte, 1+follow, 64)
		b[0] = byte(bits)
		for n := 1; n <= follow; n++ {
			wantUntaken(t, b[:n], 4, api.ErrEnd)
			wantUntaken(t, b[:n], 16, api.ErrEnd)
		}
		wantUntaken(t, b, 4, api.ErrForm) // a label of 0 that is not the last one
		wantUntaken(t, b, 16, api.ErrForm)
		if bits >= 24 {
			b[3] = 1
		}
		for _, size := range []int{4, 16} {
			for _, more := range [][]byte{nil, {0}, {255}, make([]byte, 30)} {
				if c := cat(b, more); bits >= 88 && bits <= 88+8*size {
					wantTaken(t, c, size, api.Uroute{Prefix: prefix(api.Addr{Size: size}, bits-88)}, len(b))
				} else {
					wantUntaken(t, c, size, api.ErrForm)
				}
			}
		}
	}
}

func TestTakeFewBytes(t *testing.T) { // P8.2: of each route all beginnings
	for _, u := range rights() {
		b := written(t, u)
		for n := range b {
			wantUntaken(t, b[:n], 4, api.ErrEnd)
			wantUntaken(t, b[:n], 16, api.ErrEnd)
		}
	}
}

func TestTakeAtTheFront(t *testing.T) { // P8.2, P8.6: of more bytes, whatever they are
	for _, u := range rights() {
		b := written(t, u)
		for _, more := range [][]byte{nil, {}, {0}, {1}, {88}, {255}, {255, 255, 255}, make([]byte, 300), b, b[1:], b[:len(b)-1]} {
			wantTaken(t, cat(b, more), u.Prefix.Addr.Size, u, len(b))
		}
	}
}

func TestTakeOtherSize(t *testing.T) { // P8.2: bytes of the size 4 are those of a longer address too; those of the size 16 just to 32 bits
	for _, u := range rights() {
		b, other := written(t, u), u
		other.Prefix.Addr.Size = 20 - u.Prefix.Addr.Size
		if u.Prefix.Bits <= 32 {
			wantTaken(t, b, other.Prefix.Addr.Size, other, len(b))
			wantTaken(t, cat(b, b), other.Prefix.Addr.Size, other, len(b))
		} else {
			wantUntaken(t, b, 4, api.ErrForm)
			wantUntaken(t, cat(b, b), 4, api.ErrForm)
		}
	}
}

func TestTakeLabels(t *testing.T) { // P8.2: a last bit that is 0, other low bits that are not
	for _, u := range rights() {
		b := written(t, u)
		for low := range 16 {
			for _, more := range [][]byte{nil, {1}} {
				c := cat(changed(b, 3, b[3]&240|byte(low)), more)
				if low == 1 {
					wantTaken(t, c, u.Prefix.Addr.Size, u, len(b))
				} else {
					wantUntaken(t, c, u.Prefix.Addr.Size, api.ErrForm)
				}
			}
		}
	}
}

func TestTakeBits(t *testing.T) { // P8.2: behind the prefix's, each alone and all
	for _, u := range rights() {
		b := written(t, u)
		last := len(b) - 1
		for spare := range (8 - u.Prefix.Bits%8) % 8 {
			wantUntaken(t, changed(b, last, b[last]|1<<spare), u.Prefix.Addr.Size, api.ErrForm)
			wantUntaken(t, cat(changed(b, last, b[last]|(2<<spare-1)), b), u.Prefix.Addr.Size, api.ErrForm)
		}
	}
}

func TestTakeLess(t *testing.T) { // P8.2: fewer bits than were written, more of them: right where none is cut that is 1
	b := written(t, api.Uroute{RD: dist, Prefix: prefix(v4(10, 1), 16), Label: 16})
	for bits := range 168 {
		c := cat(changed(b, 0, byte(88+bits)), make([]byte, 20))
		switch {
		case bits == 0:
			wantTaken(t, c, 4, api.Uroute{RD: dist, Prefix: prefix(v4(), 0), Label: 16}, 12)
		case bits == 7 || bits == 8:
			wantTaken(t, c, 4, api.Uroute{RD: dist, Prefix: prefix(v4(10), bits), Label: 16}, 13)
		case bits >= 16 && bits <= 32:
			wantTaken(t, c, 4, api.Uroute{RD: dist, Prefix: prefix(v4(10, 1), bits), Label: 16}, 12+(bits+7)/8)
		default:
			wantUntaken(t, c, 4, api.ErrForm)
		}
	}
}

func TestTakeEachByte(t *testing.T) { // P8.2, P8.6: as the model has it, and what is taken is written so again
	for _, u := range []api.Uroute{
		{RD: dist, Prefix: prefix(v4(10, 1), 16), Label: 16},
		{RD: oddDist, Prefix: prefix(v4(10, 1, 128), 17), Label: mostLabel},
		{RD: dist, Prefix: prefix(v4(), 0), Label: 0},
		{RD: dist, Prefix: prefix(full(4, 32), 32), Label: 3},
		{RD: dist, Prefix: prefix(v6(32, 1, 13, 184), 61), Label: 16},
		{RD: allDist, Prefix: prefix(full(16, 128), 128), Label: 65536},
	} {
		b := written(t, u)
		for at := range b {
			for n := range 256 {
				wantAs(t, changed(b, at, byte(n)), 4)
				wantAs(t, cat(changed(b, at, byte(n)), make([]byte, 32)), 16)
			}
		}
	}
}

// wantAs wants bytes to be taken as the model takes them, and what was taken to be written so again: is there one?
func wantAs(t *testing.T, b []byte, size int) bool {
	t.Helper()
	want, n, errno := model(b, size)
	if u, got, e := uroute.Take(b, size); u != want || got != n || e != errno {
		t.Fatalf("Take(%v, %d): %v, %d, %v, want %v, %d, %v", b, size, u, got, e, want, n, errno)
	}
	if errno != api.OK {
		return false
	}
	if again, e := uroute.Bytes(want); e != api.OK || !bytes.Equal(again, b[:n]) || !uroute.Right(want) {
		t.Fatalf("Bytes(%v): %v, %v, want %v", want, again, e, b[:n])
	}
	return true
}
