package label_test

import (
	"bytes"
	"math"
	"slices"
	"testing"

	"vinery/api"
	"vinery/label"
)

var (
	_ func(n int, last bool) ([]byte, api.Errno) = label.Bytes
	_ func([]byte) (int, bool, api.Errno)        = label.Read
)

// The limits of labels, as the document's numbers; below: package api tells the same.
const (
	least = 16
	most  = 1048575
)

var (
	_ [0]struct{} = [api.MinLabel - least]struct{}{}
	_ [0]struct{} = [api.MaxLabel - most]struct{}{}
)

// oddNumbers are no labels: also such as would be one if their highest bits were lost.
var oddNumbers = []int{math.MinInt, math.MinInt + 16, math.MinInt + 1<<19, -1 << 60, -1 << 32, -1 << 20, -1<<20 + 16, -16, -2, -1, most + 1, most + 17, 1 << 21, 1 << 24, 1<<28 + 16, 1 << 32, 1<<32 + 16, 1 << 59, 1 << 60, 1<<60 + 16, 1<<62 + 7, math.MaxInt - 15, math.MaxInt}

// wantBytes wants a label to be these bytes, and these bytes to be it.
func wantBytes(t *testing.T, n int, last bool, want ...byte) {
	t.Helper()
	b, e := label.Bytes(n, last)
	if e != api.OK || !bytes.Equal(b, want) {
		t.Errorf("Bytes(%d, %v): %v, %v, want %v", n, last, b, e, want)
	}
	if got, is, e := label.Read(want); got != n || is != last || e != api.OK {
		t.Errorf("Read(%v): %d, %v, %v, want %d, %v", want, got, is, e, n, last)
	}
}

// wantUnread wants bytes to be refused, and nothing else to be told of them.
func wantUnread(t *testing.T, b ...byte) {
	t.Helper()
	if n, last, e := label.Read(b); n != 0 || last || e != api.ErrForm {
		t.Errorf("Read(%v): %d, %v, %v, want ErrForm", b, n, last, e)
	}
}

func TestBytes(t *testing.T) { // P5.1, P5.4: which bytes they are; those below MinLabel too
	for _, last := range []bool{false, true} {
		bit := byte(0)
		if last {
			bit = 1
		}
		wantBytes(t, 0, last, 0, 0, bit)
		wantBytes(t, 1, last, 0, 0, 16|bit)
		wantBytes(t, 15, last, 0, 0, 240|bit)
		wantBytes(t, 16, last, 0, 1, bit)
		wantBytes(t, 17, last, 0, 1, 16|bit)
		wantBytes(t, 4095, last, 0, 255, 240|bit)
		wantBytes(t, 4096, last, 1, 0, bit)
		wantBytes(t, 0x12345, last, 0x12, 0x34, 0x50|bit)
		wantBytes(t, 1<<19, last, 128, 0, bit)
		wantBytes(t, most-1, last, 255, 255, 224|bit)
		wantBytes(t, most, last, 255, 255, 240|bit)
	}
}

func TestBytesOfNoLabel(t *testing.T) { // P5.1: ErrNum, and nothing else (W3)
	for _, n := range oddNumbers {
		for _, last := range []bool{false, true} {
			if b, e := label.Bytes(n, last); e != api.ErrNum || len(b) != 0 {
				t.Errorf("Bytes(%d, %v): %v, %v, want ErrNum", n, last, b, e)
			}
		}
	}
}

func TestReadLengths(t *testing.T) { // P5.1: just three bytes are one
	wantUnread(t)
	wantUnread(t, []byte{}...)
	wantUnread(t, 0)
	wantUnread(t, 1)
	wantUnread(t, 0, 1)
	wantUnread(t, 255, 255)
	wantUnread(t, 0, 1, 1, 0)
	wantUnread(t, 0, 1, 0, 1)
	wantUnread(t, 0, 0, 1, 1)
	wantUnread(t, 0, 0, 0, 0, 0, 0)
	wantUnread(t, 0, 1, 1, 0, 1, 1)
	for n := 4; n < 300; n++ {
		wantUnread(t, make([]byte, n)...)
	}
	wantUnread(t, make([]byte, 1<<16+3)...)
	wantUnread(t, make([]byte, 1<<24+3)...)
}

func TestReadOddBits(t *testing.T) { // P5.1: each of the three bits, with any others
	for _, head := range [][2]byte{{0, 0}, {0, 1}, {1, 0}, {255, 255}} {
		for high := range 16 {
			for low := range 16 {
				last := byte(high<<4 | low)
				if low > 1 {
					wantUnread(t, head[0], head[1], last)
					continue
				}
				wantBytes(t, int(head[0])<<12|int(head[1])<<4|high, low == 1, head[0], head[1], last)
			}
		}
	}
}

func TestEachLabel(t *testing.T) { // P5.4: all that can be written, and so all that can be read
	for n := range most + 1 {
		for _, last := range []bool{false, true} {
			b, e := label.Bytes(n, last)
			if got, is, e2 := label.Read(b); e != api.OK || len(b) != 3 || got != n || is != last || e2 != api.OK {
				t.Fatalf("%d, %v: %v, %v; read: %d, %v, %v", n, last, b, e, got, is, e2)
			}
		}
	}
}

func TestEachThreeBytes(t *testing.T) { // P5.4: what is read is written, and is refused just if nothing is written so
	b := make([]byte, 3)
	for n := range 1 << 24 {
		b[0], b[1], b[2] = byte(n>>16), byte(n>>8), byte(n)
		got, last, e := label.Read(b)
		if n&14 != 0 {
			if got != 0 || last || e != api.ErrForm {
				t.Fatalf("Read(%v): %d, %v, %v, want ErrForm", b, got, last, e)
			}
			continue
		}
		if got != n/16 || last != (n%2 == 1) || e != api.OK {
			t.Fatalf("Read(%v): %d, %v, %v", b, got, last, e)
		}
		if again, e := label.Bytes(got, last); e != api.OK || !bytes.Equal(again, b) {
			t.Fatalf("%v: written again: %v, %v", b, again, e)
		}
	}
}

func TestBytesAreNew(t *testing.T) { // W6: with their spare room
	a, _ := label.Bytes(16, true)
	b, _ := label.Bytes(16, true)
	a = a[:cap(a)]
	for i := range a {
		a[i] = 77
	}
	if c, _ := label.Bytes(16, true); !bytes.Equal(b, []byte{0, 1, 1}) || !bytes.Equal(c, []byte{0, 1, 1}) {
		t.Errorf("beside one that was written over: %v, %v", b, c)
	}
}

func TestReadLeavesItsBytes(t *testing.T) { // W6: those behind them too
	for _, row := range [][]byte{{0, 1, 1, 9, 9}, {0, 1, 2, 9, 9}, {0, 1, 0, 0, 9}} {
		for n := range row {
			was := slices.Clone(row)
			label.Read(row[:n])
			if !bytes.Equal(row, was) {
				t.Errorf("Read(%v) left %v of %v", was[:n], row, was)
			}
		}
	}
}
