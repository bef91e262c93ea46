package addr_test

import (
	"bytes"
	"math"
	"testing"

	"vinery/addr"
	"vinery/api"
)

var (
	_ func(api.Addr) bool                = addr.Right
	_ func([]byte) (api.Addr, api.Errno) = addr.Of
	_ func(api.Addr) []byte              = addr.Bytes
	_ func(api.Addr) bool                = addr.Multicast
)

// v4 is an address of IPv4.
func v4(a, b, c, d byte) api.Addr { return api.Addr{Size: 4, B: [16]byte{a, b, c, d}} }

// v6 is an address of IPv6 with these numbers, and 0 behind them.
func v6(numbers ...int) api.Addr {
	a := api.Addr{Size: 16}
	for i, n := range numbers {
		a.B[2*i], a.B[2*i+1] = byte(n>>8), byte(n)
	}
	return a
}

// full is an address of so many bytes, all of them 255.
func full(size int) api.Addr {
	a := api.Addr{Size: size}
	for i := range size {
		a.B[i] = 0xFF
	}
	return a
}

// oddSizes are sizes that no address has.
var oddSizes = []int{math.MinInt, -16, -4, -1, 1, 2, 3, 5, 8, 12, 15, 17, 32, 128, 256, 260, 272, 1<<32 + 4, math.MaxInt}

// wrong are addresses that are not right: of a wrong size, or with a byte behind it.
func wrong() []api.Addr {
	var out []api.Addr
	for _, size := range oddSizes {
		out = append(out, api.Addr{Size: size}, api.Addr{Size: size, B: [16]byte{224, 0, 0, 1}}, api.Addr{Size: size, B: full(16).B})
	}
	for _, size := range []int{0, 4} {
		for i := size; i < 16; i++ {
			for _, b := range []byte{1, 128, 255} {
				a := full(size)
				a.B[i] = b
				out = append(out, a)
			}
		}
	}
	return out
}

// right are some that are.
func right() []api.Addr {
	return []api.Addr{
		{}, v4(0, 0, 0, 0), v4(10, 1, 2, 3), v4(224, 0, 0, 1), full(4),
		v6(), v6(0, 0, 0, 0, 0, 0, 0, 1), v6(0x2001, 0xdb8), v6(1, 2, 3, 4, 5, 6, 7, 8), v6(0xff02, 0, 0, 0, 0, 0, 0, 5), full(16),
	}
}

func TestRight(t *testing.T) { // P2.1
	for _, a := range right() {
		if !addr.Right(a) {
			t.Errorf("%v is not right", a)
		}
	}
	for _, a := range wrong() {
		if addr.Right(a) {
			t.Errorf("%v is right", a)
		}
	}
}

func TestOf(t *testing.T) { // P2.1
	for size := range 40 {
		b := make([]byte, size)
		for i := range b {
			b[i] = byte(i + 1)
		}
		a, e := addr.Of(b)
		if size != 0 && size != 4 && size != 16 {
			if e != api.ErrArg || a != (api.Addr{}) {
				t.Errorf("%d bytes: %v, %v", size, a, e)
			}
			continue
		}
		want := api.Addr{Size: size}
		copy(want.B[:], b)
		if e != api.OK || a != want {
			t.Errorf("%d bytes: %v, %v, want %v", size, a, e, want)
		}
	}
	for _, size := range []int{255, 256, 260, 272, api.MaxBytes} { // as long as an address, in 8 bits
		if a, e := addr.Of(make([]byte, size)); e != api.ErrArg || a != (api.Addr{}) {
			t.Errorf("%d bytes: %v, %v", size, a, e)
		}
	}
	if a, e := addr.Of(nil); e != api.OK || a != (api.Addr{}) { // W5: as an empty row
		t.Errorf("nil: %v, %v", a, e)
	}
}

func TestBytes(t *testing.T) { // P2.1
	for _, a := range right() {
		if b := addr.Bytes(a); !bytes.Equal(b, a.B[:a.Size]) {
			t.Errorf("%v: %v", a, b)
		}
	}
	for _, a := range wrong() {
		if b := addr.Bytes(a); len(b) != 0 {
			t.Errorf("%v: %v", a, b)
		}
	}
}

func TestOfBytes(t *testing.T) { // P2.1: each the other's way back
	for _, a := range right() {
		if b, e := addr.Of(addr.Bytes(a)); e != api.OK || b != a {
			t.Errorf("%v: %v, %v", a, b, e)
		}
	}
}

func TestMulticast(t *testing.T) { // P2.5
	for first := range 256 {
		for _, c := range []struct {
			a    api.Addr
			want bool
		}{
			{v4(byte(first), 0, 0, 0), first >= 224 && first <= 239},
			{v4(byte(first), 255, 255, 255), first >= 224 && first <= 239},
			{v6(first<<8, 0, 0, 0, 0, 0, 0, 1), first == 255},
			{v6(first<<8 | 255), first == 255},
		} {
			if addr.Multicast(c.a) != c.want {
				t.Errorf("%s: %v", addr.Text(c.a), !c.want)
			}
		}
	}
	for _, a := range append(wrong(), api.Addr{}) {
		if addr.Multicast(a) {
			t.Errorf("%v", a)
		}
	}
	for i := 4; i < 16; i++ {
		a := v4(224, 0, 0, 1)
		a.B[i] = 1
		if addr.Multicast(a) {
			t.Errorf("%v", a)
		}
	}
}

func TestOfNeitherChangesNorKeeps(t *testing.T) { // P2.6
	room := []byte{10, 1, 2, 3, 5, 6, 7, 8}
	a, _ := addr.Of(room[:4])
	if !bytes.Equal(room, []byte{10, 1, 2, 3, 5, 6, 7, 8}) {
		t.Errorf("what was handed in: %v", room)
	}
	clear(room)
	if a != v4(10, 1, 2, 3) {
		t.Errorf("kept: %v", a)
	}
}

func TestBytesAreNew(t *testing.T) { // P2.6, spare room too
	for _, a := range right() {
		was := a
		one, two := addr.Bytes(a), addr.Bytes(a)
		for _, b := range [][]byte{one[:cap(one)], one} {
			for i := range b {
				b[i] ^= 0xFF
			}
		}
		_ = append(one, 1, 2, 3)
		if a != was || !bytes.Equal(two, was.B[:was.Size]) || !bytes.Equal(addr.Bytes(a), two) {
			t.Errorf("%v: changed: %v, %v", was, a, two)
		}
	}
}
