package cursor_test

import (
	"bytes"
	"math"
	"testing"

	"vinery/api"
	"vinery/cursor"
)

var _ func([]byte, int, int) ([]byte, api.Errno) = cursor.Put

func TestPut(t *testing.T) { // P1.3
	for _, c := range []struct {
		n, size int
		want    []byte
	}{
		{0, 1, []byte{0}}, {255, 1, []byte{255}},
		{0, 2, []byte{0, 0}}, {258, 2, []byte{1, 2}}, {256, 2, []byte{1, 0}}, {65535, 2, []byte{255, 255}},
		{0, 3, []byte{0, 0, 0}}, {0x010203, 3, []byte{1, 2, 3}}, {1<<24 - 1, 3, []byte{255, 255, 255}},
		{0, 4, []byte{0, 0, 0, 0}}, {0x81028304, 4, []byte{0x81, 2, 0x83, 4}}, {1<<32 - 1, 4, []byte{255, 255, 255, 255}},
	} {
		for _, b := range [][]byte{nil, {}, {9}, {0, 0, 7}} {
			got, e := cursor.Put(b, c.n, c.size)
			if want := append(bytes.Clone(b), c.want...); e != api.OK || !bytes.Equal(got, want) {
				t.Errorf("Put(%v, %d, %d): %v, %d; want %v", b, c.n, c.size, got, e, want)
			}
		}
	}
}

// wantRefused fails, if Put tells another error, or anything beside it (W3).
func wantRefused(t *testing.T, n, size int, want api.Errno) {
	t.Helper()
	for _, b := range [][]byte{nil, {1, 2}} {
		if got, e := cursor.Put(b, n, size); e != want || len(got) != 0 {
			t.Errorf("Put(%v, %d, %d): %v, %d; want error %d alone", b, n, size, got, e, want)
		}
	}
}

func TestPutSizes(t *testing.T) { // P1.3: ErrArg, ahead of ErrNum (W4)
	for _, size := range append([]int{0, 5, 8, 16}, never...) {
		for _, n := range []int{math.MinInt, -1, 0, 1, 255, 1 << 32, math.MaxInt} {
			wantRefused(t, n, size, api.ErrArg)
		}
	}
}

func TestPutNumbers(t *testing.T) { // P1.3: ErrNum
	for size := 1; size <= 4; size++ {
		for _, n := range []int{math.MinInt, -1 << 32, -1, 1 << (8 * size), 1<<(8*size) + 1, 1 << 40, math.MaxInt} {
			wantRefused(t, n, size, api.ErrNum)
		}
	}
}

func TestPutIsNew(t *testing.T) { // P1.5
	room := []byte{1, 2, 3, 77, 77, 77, 77, 77}
	b := room[:3]
	x, _ := cursor.Put(b, 0x04050607, 4)
	if !bytes.Equal(room, []byte{1, 2, 3, 77, 77, 77, 77, 77}) {
		t.Errorf("the spare room: %v", room)
	}
	y, _ := cursor.Put(b, 0x08, 1)
	z, _ := cursor.Put(x, 0x09, 1)
	cursor.Put(b, 256, 1)
	cursor.Put(b, 1, 5)
	scribble(x)
	if !bytes.Equal(y, []byte{1, 2, 3, 8}) || !bytes.Equal(z, []byte{1, 2, 3, 4, 5, 6, 7, 9}) {
		t.Errorf("the others: %v, %v", y, z)
	}
	scribble(y)
	scribble(z)
	if !bytes.Equal(room, []byte{1, 2, 3, 77, 77, 77, 77, 77}) {
		t.Errorf("what was handed in: %v", room)
	}
	scribble(room)
	if !bytes.Equal(x, []byte{0xFE, 0xFD, 0xFC, 0xFB, 0xFA, 0xF9, 0xF8}) {
		t.Errorf("what was answered: %v", x)
	}
}

// edges are numbers of a size: its ends, each power of two and those beside it.
func edges(size int) []int {
	top := 1<<(8*size) - 1
	out := []int{0, top}
	for bit := range 8 * size {
		for _, n := range []int{1<<bit - 1, 1 << bit, 1<<bit + 1, top - 1<<bit} {
			if n >= 0 && n <= top {
				out = append(out, n)
			}
		}
	}
	return out
}

func TestPutThenNum(t *testing.T) { // P1.6: what Put wrote Num reads
	for size := 1; size <= 4; size++ {
		var b []byte
		for _, n := range edges(size) {
			var e api.Errno
			if b, e = cursor.Put(b, n, size); e != api.OK {
				t.Fatalf("Put(.., %d, %d): error %d", n, size, e)
			}
		}
		r := cursor.Open(b)
		for _, n := range edges(size) {
			if got := r.Num(size); got != n {
				t.Errorf("size %d: %d came back as %d", size, n, got)
			}
		}
		wantGood(t, r, 0)
	}
	for n := range 1 << 16 {
		b, e := cursor.Put(nil, n, 2)
		if got := cursor.Open(b).Num(2); e != api.OK || got != n {
			t.Fatalf("%d came back as %d, error %d", n, got, e)
		}
	}
}

func TestNumThenPut(t *testing.T) { // P1.6: what was read and is written again is the same bytes
	var b []byte
	for i := range 4 * 3 * 60 {
		b = append(b, byte(i*i+i>>3))
	}
	for size := 1; size <= 4; size++ {
		var again []byte
		for r := cursor.Open(b); r.Left() > 0; {
			var e api.Errno
			if again, e = cursor.Put(again, r.Num(size), size); e != api.OK {
				t.Fatalf("size %d: error %d", size, e)
			}
		}
		if !bytes.Equal(again, b) {
			t.Errorf("size %d: other bytes", size)
		}
	}
}
