package mroute_test

import (
	"bytes"
	"slices"
	"testing"

	"vinery/api"
	"vinery/mroute"
)

// wantRow wants routes to be these bytes, in a row, and these bytes to be them.
func wantRow(t *testing.T, size int, want []byte, l ...api.Mroute) {
	t.Helper()
	if b, e := mroute.Row(l...); e != api.OK || !bytes.Equal(b, want) {
		t.Errorf("Row(%v): %v, %v, want %v", l, b, e, want)
	}
	if got, e := mroute.ReadRow(want, size); e != api.OK || !slices.Equal(got, l) {
		t.Errorf("ReadRow(%v, %d): %v, %v, want %v", want, size, got, e, l)
	}
}

// wantNoRow wants none of bytes.
func wantNoRow(t *testing.T, size int, want api.Errno, b []byte) {
	t.Helper()
	if l, e := mroute.ReadRow(b, size); e != want || len(l) != 0 {
		t.Errorf("ReadRow(%v, %d): %v, %v, want %v", b, size, l, e, want)
	}
}

// ofSize are those of rights that are of a size.
func ofSize(t *testing.T, size int) []api.Mroute {
	t.Helper()
	var l []api.Mroute
	for _, m := range rights() {
		if slices.Contains(sizesOf(t, m), size) {
			l = append(l, m)
		}
	}
	return l
}

func TestRowOfNone(t *testing.T) { // P7.3, W5
	for _, l := range [][]api.Mroute{nil, {}} {
		if b, e := mroute.Row(l...); e != api.OK || len(b) != 0 {
			t.Errorf("Row of none: %v, %v", b, e)
		}
	}
	for _, size := range []int{4, 16} {
		for _, b := range [][]byte{nil, {}} {
			if l, e := mroute.ReadRow(b, size); e != api.OK || len(l) != 0 {
				t.Errorf("ReadRow of none: %v, %v", l, e)
			}
		}
	}
}

func TestRows(t *testing.T) { // P7.3, P7.8: of one, of several, of one twice, one behind another
	for _, size := range []int{4, 16} {
		l := ofSize(t, size)
		var all []byte
		for i, m := range l {
			b := written(t, m)
			wantRow(t, size, b, m)
			wantRow(t, size, cat(b, b), m, m)
			before := written(t, l[max(i-1, 0)])
			wantRow(t, size, cat(before, b), l[max(i-1, 0)], m)
			all = append(all, b...)
		}
		wantRow(t, size, all, l...)
	}
}

func TestRowOfOdd(t *testing.T) { // P7.3: a wrong one first, in the middle, last
	good := []api.Mroute{right(1), right(2), right(3)}
	for _, odd := range append(odds(), api.Mroute{}) {
		for at := range len(good) + 1 {
			l := slices.Insert(slices.Clone(good), at, odd)
			if b, e := mroute.Row(l...); e != api.ErrArg || len(b) != 0 {
				t.Errorf("Row(%v): %v, %v, want ErrArg", l, b, e)
			}
		}
		if b, e := mroute.Row(odd); e != api.ErrArg || len(b) != 0 {
			t.Errorf("Row(%v): %v, %v, want ErrArg", odd, b, e)
		}
	}
}

func TestReadRowOddSizes(t *testing.T) { // P7.3: ahead of what the bytes are, also where there are none
	good := written(t, right(intra))
	for _, size := range oddSizes {
		for _, b := range [][]byte{nil, {}, {1}, {9, 0}, good, cat(good, good)} {
			wantNoRow(t, size, api.ErrArg, b)
		}
	}
}

func TestReadRowOfOdd(t *testing.T) { // P7.3: Take's first error from the front, wherever it is
	good := [][]byte{written(t, right(5)), written(t, right(2)), written(t, right(4))}
	six := api.Mroute{Kind: active, RD: dist, Source: source6, Group: group6}
	wrong := [][]byte{{0, 0}, {9, 0}, {255, 1, 1}, {1, 0}, cat([]byte{1, 13}, distB, frm4, []byte{0}), cat([]byte{1, 11}, distB, frm4[1:]), written(t, six)}
	for at := range len(good) + 1 {
		for _, w := range wrong {
			b := cat(slices.Insert(slices.Clone(good), at, w)...)
			wantNoRow(t, 4, api.ErrForm, b)
			wantNoRow(t, 4, api.ErrForm, append(b, 1))               // the first error counts
			wantNoRow(t, 4, api.ErrForm, append(b, 1, 255, 0))       // as well
			wantNoRow(t, 4, api.ErrForm, append(b, b[:len(b)-1]...)) // as well
		}
		before := cat(good[:at]...)
		wantNoRow(t, 4, api.ErrEnd, append(slices.Clone(before), 1))
		wantNoRow(t, 4, api.ErrEnd, append(slices.Clone(before), 1, 1))
		wantNoRow(t, 4, api.ErrEnd, append(slices.Clone(before), 9, 255, 9, 0))
	}
	all := cat(good...)
	ends := []int{0, len(good[0]), len(good[0]) + len(good[1])}
	for n := range all {
		if l, e := mroute.ReadRow(all[:n], 4); !slices.Contains(ends, n) {
			wantNoRow(t, 4, api.ErrEnd, all[:n])
		} else if e != api.OK || len(l) != slices.Index(ends, n) {
			t.Errorf("ReadRow of %d bytes: %v, %v", n, l, e)
		}
	}
}

func TestLongRows(t *testing.T) { // P7.3, W1: each step is one of what is left, so it ends
	l := make([]api.Mroute, 1<<16)
	for i := range l {
		l[i] = api.Mroute{Kind: inter, RD: dist, AS: i}
	}
	b, e := mroute.Row(l...)
	if e != api.OK || len(b) != 14*len(l) {
		t.Fatalf("Row: %d bytes, %v", len(b), e)
	}
	for _, size := range []int{4, 16} {
		if got, e := mroute.ReadRow(b, size); e != api.OK || !slices.Equal(got, l) {
			t.Errorf("ReadRow: %d, %v", len(got), e)
		}
	}
}
