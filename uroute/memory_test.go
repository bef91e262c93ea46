package uroute_test

import (
	"bytes"
	"slices"
	"testing"

	"vinery/api"
	"vinery/uroute"
)

// other is what rows are written over with.
var other = api.Uroute{RD: allDist, Prefix: prefix(v6(9), 8), Label: 9}

// roomy is a row with spare room, which is not zero.
func roomy[T any](row []T, fill T) []T {
	return append(slices.Clone(row), fill, fill, fill, fill)[:len(row)]
}

// whole is a row with its spare room.
func whole[T any](row []T) []T { return row[:cap(row)] }

// spoil writes all over a row and its spare room.
func spoil[T any](row []T, n T) {
	for i := range whole(row) {
		whole(row)[i] = n
	}
}

// wantLeft wants a row, with its spare room, to be as it was.
func wantLeft[T comparable](t *testing.T, call string, row, was []T) {
	t.Helper()
	if !slices.Equal(whole(row), was) {
		t.Errorf("%s changed what was handed in: %v, it was %v", call, whole(row), was)
	}
}

func TestRoutesAreLeft(t *testing.T) { // P8.5, W6: what is handed in is not changed, its spare room neither
	l := roomy(rights()[:6], other)
	for _, odd := range []int{-1, 2} {
		if odd >= 0 {
			l[odd].Label = -1
		}
		was := slices.Clone(whole(l))
		for _, n := range []int{6, 5, 3, 1, 0} {
			uroute.Row(l[:n]...)
			wantLeft(t, "Row", l, was)
		}
	}
}

func TestBytesAreLeft(t *testing.T) { // P8.5, W6
	for _, u := range rights() {
		b := written(t, u)
		for _, n := range []int{len(b), len(b) - 1, 4, 1, 0} {
			for _, in := range [][]byte{roomy(b[:n], 7), roomy(b[:n], 255), roomy(cat(b, b[:n]), 88), roomy(cat(b, b, []byte{0}), 1)} {
				was := slices.Clone(whole(in))
				for _, size := range []int{4, 16, 5} {
					uroute.Take(in, size)
					uroute.ReadRow(in, size)
					wantLeft(t, "a reading call", in, was)
				}
			}
		}
	}
}

func TestAnswersAreNewBytes(t *testing.T) { // P8.5, W6: neither does an answer change with what was handed in, nor with another answer
	for _, u := range rights() {
		a, b := written(t, u), written(t, u)
		want := slices.Clone(a)
		spoil(b, 9)
		in := roomy([]api.Uroute{u, u}, other)
		was := slices.Clone(whole(in))
		x, _ := uroute.Row(in...)
		y, _ := uroute.Row(in...)
		one, _ := uroute.Row(u)
		spoil(y, 9)
		spoil(one, 9)
		wantLeft(t, "writing on an answer", in, was)
		spoil(in, other)
		if !bytes.Equal(a, want) || !bytes.Equal(written(t, u), want) || !bytes.Equal(x, cat(want, want)) {
			t.Errorf("%v: behind writing on answers and what was handed in: %v, %v, want %v", u, a, x, want)
		}
	}
}

func TestAnswersAreNewRoutes(t *testing.T) { // P8.5, W6
	for _, u := range rights() {
		size := u.Prefix.Addr.Size
		in := roomy(cat(written(t, u), written(t, u)), 7)
		was := slices.Clone(whole(in))
		one, _, e := uroute.Take(in, size)
		row, e2 := uroute.ReadRow(in, size)
		again, _ := uroute.ReadRow(in, size)
		spoil(again, other)
		wantLeft(t, "writing on an answer", in, was)
		spoil(in, 9)
		if e != api.OK || e2 != api.OK || one != u || !slices.Equal(row, []api.Uroute{u, u}) {
			t.Errorf("behind writing on what was handed in: %v, %v, want %v", one, row, u)
		}
	}
}
