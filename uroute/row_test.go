package uroute_test

import (
	"bytes"
	"slices"
	"testing"

	"vinery/api"
	"vinery/uroute"
)

// wantRow wants routes to be these bytes, in a row, and these bytes to be them.
func wantRow(t *testing.T, size int, want []byte, l ...api.Uroute) {
	t.Helper()
	if b, e := uroute.Row(l...); e != api.OK || !bytes.Equal(b, want) {
		t.Errorf("Row(%v): %v, %v, want %v", l, b, e, want)
	}
	if got, e := uroute.ReadRow(want, size); e != api.OK || !slices.Equal(got, l) {
		t.Errorf("ReadRow(%v, %d): %v, %v, want %v", want, size, got, e, l)
	}
}

// wantNoRow wants none of bytes.
func wantNoRow(t *testing.T, size int, want api.Errno, l ...[]byte) {
	t.Helper()
	for _, b := range l {
		if row, e := uroute.ReadRow(b, size); e != want || len(row) != 0 {
			t.Errorf("ReadRow(%v, %d): %v, %v, want %v", b, size, row, e, want)
		}
	}
}

// ofSize are those of rights that are of a size.
func ofSize(size int) []api.Uroute {
	return slices.DeleteFunc(rights(), func(u api.Uroute) bool { return u.Prefix.Addr.Size != size })
}

func TestRowOfNone(t *testing.T) { // P8.3, W5
	for _, l := range [][]api.Uroute{nil, {}} {
		if b, e := uroute.Row(l...); e != api.OK || len(b) != 0 {
			t.Errorf("Row of none: %v, %v", b, e)
		}
	}
	if b, e := uroute.Row(); e != api.OK || len(b) != 0 {
		t.Errorf("Row(): %v, %v", b, e)
	}
	for _, size := range []int{4, 16} {
		for _, b := range [][]byte{nil, {}} {
			wantNoRow(t, size, api.OK, b)
		}
	}
}

func TestRows(t *testing.T) { // P8.3, P8.6: of one, of several, of one twice, one behind another
	for _, size := range []int{4, 16} {
		l := ofSize(size)
		var all []byte
		for i, u := range l {
			b, before := written(t, u), written(t, l[max(i-1, 0)])
			wantRow(t, size, b, u)
			wantRow(t, size, cat(b, b), u, u)
			wantRow(t, size, cat(before, b, before), l[max(i-1, 0)], u, l[max(i-1, 0)])
			all = append(all, b...)
		}
		wantRow(t, size, all, l...)
	}
}

func TestRowOfBothSizes(t *testing.T) { // P8.3: Row asks for no size
	four, six := api.Uroute{RD: dist, Prefix: prefix(v4(10, 1), 16), Label: 16}, api.Uroute{RD: dist, Prefix: prefix(full(16, 128), 128), Label: 17}
	want := cat(written(t, four), written(t, six), written(t, four))
	if b, e := uroute.Row(four, six, four); e != api.OK || !bytes.Equal(b, want) {
		t.Errorf("Row: %v, %v, want %v", b, e, want)
	}
	wantNoRow(t, 4, api.ErrForm, want)
}

func TestRowOfOdd(t *testing.T) { // P8.3: a wrong one first, in the middle, last, alone
	good := ofSize(4)[:3]
	for _, odd := range odds() {
		for at := range len(good) + 1 {
			l := slices.Insert(slices.Clone(good), at, odd)
			if b, e := uroute.Row(l...); e != api.ErrArg || len(b) != 0 {
				t.Errorf("Row(%v): %v, %v, want ErrArg", l, b, e)
			}
		}
		if b, e := uroute.Row(odd); e != api.ErrArg || len(b) != 0 {
			t.Errorf("Row(%v): %v, %v, want ErrArg", odd, b, e)
		}
	}
}

func TestReadRowOddSizes(t *testing.T) { // P8.3: ahead of what the bytes are, also where there are none
	good := written(t, rights()[0])
	for _, size := range oddSizes {
		wantNoRow(t, size, api.ErrArg, nil, []byte{}, []byte{0}, []byte{88}, []byte{255}, good, cat(good, good), good[1:])
	}
}

func TestReadRowOfOdd(t *testing.T) { // P8.3: Take's first error from the front, wherever it is
	good := [][]byte{
		written(t, api.Uroute{RD: dist, Prefix: prefix(v4(10, 1), 16), Label: 16}),
		written(t, api.Uroute{RD: dist, Prefix: prefix(v4(), 0), Label: 17}),
		written(t, api.Uroute{RD: oddDist, Prefix: prefix(full(4, 32), 32)}),
	}
	wrong := [][]byte{
		{0}, {1, 1}, cat([]byte{87}, make([]byte, 11)), make([]byte, 11), // too few bits
		changed(good[0], 3, 0), changed(good[0], 3, 3), changed(good[0], 0, 103), // a label, a prefix that are none
		cat([]byte{121, 0, 1, 1}, dist[:], make([]byte, 5)), cat([]byte{255}, make([]byte, 32)), // too many bits
	}
	for at := range len(good) + 1 {
		for _, w := range wrong {
			b := cat(slices.Insert(slices.Clone(good), at, w)...)
			wantNoRow(t, 4, api.ErrForm, b, cat(b, []byte{88}), cat(b, []byte{255, 0}), cat(b, b[:len(b)-1])) // the first error counts
		}
		before := cat(good[:at]...)
		wantNoRow(t, 4, api.ErrEnd, cat(before, []byte{88}), cat(before, []byte{1}), cat(before, []byte{255}, make([]byte, 31)), cat(before, good[0][:13]))
	}
	all := cat(good...)
	ends := []int{0, len(good[0]), len(good[0]) + len(good[1])}
	for n := range all {
		if l, e := uroute.ReadRow(all[:n], 4); !slices.Contains(ends, n) {
			wantNoRow(t, 4, api.ErrEnd, all[:n])
		} else if e != api.OK || len(l) != slices.Index(ends, n) {
			t.Errorf("ReadRow of %d bytes: %v, %v", n, l, e)
		}
	}
}

func TestLongRows(t *testing.T) { // P8.3, W1: each step is one of what is left, so it ends
	l := make([]api.Uroute, 1<<16)
	for i := range l {
		l[i] = api.Uroute{RD: dist, Prefix: prefix(v4(10, byte(i>>8), byte(i)), 24), Label: i}
	}
	b, e := uroute.Row(l...)
	if e != api.OK || len(b) != 15*len(l) {
		t.Fatalf("Row: %d bytes, %v", len(b), e)
	}
	if got, e := uroute.ReadRow(b, 4); e != api.OK || !slices.Equal(got, l) {
		t.Errorf("ReadRow: %d, %v", len(got), e)
	}
	wantNoRow(t, 4, api.ErrEnd, b[:len(b)-1])
}
