package mroute_test

import (
	"bytes"
	"slices"
	"testing"

	"vinery/api"
	"vinery/mroute"
)

// roomy is a row with spare room, which is not zero.
func roomy[T any](row []T, fill T) []T {
	return append(slices.Clone(row), fill, fill, fill, fill)[:len(row)]
}

// whole is a row with its spare room.
func whole[T any](row []T) []T { return row[:cap(row)] }

// spoil writes all over a row and its spare room.
func spoil[T any](row []T, n T) {
	for i := range whole(row) {
		whole(row)[i] = n
	}
}

// wantLeft wants a row, with its spare room, to be as it was.
func wantLeft[T comparable](t *testing.T, call string, row, was []T) {
	t.Helper()
	if !slices.Equal(whole(row), was) {
		t.Errorf("%s changed what was handed in: %v, it was %v", call, whole(row), was)
	}
}

func TestRowsAreLeft(t *testing.T) { // P7.7, W6: what is handed in is not changed, its spare room neither
	l := roomy([]api.Mroute{right(3), right(1), right(4), right(1)}, right(2))
	wasL := slices.Clone(whole(l))
	for _, n := range []int{4, 3, 0} {
		mroute.Row(l[:n]...)
		wantLeft(t, "Row", l, wasL)
	}
	l[2].AS = -1
	wasL = slices.Clone(whole(l))
	mroute.Row(l...)
	wantLeft(t, "Row", l, wasL)
	for _, m := range rights() {
		b := written(t, m)
		for _, n := range []int{len(b), len(b) - 1, 2, 1, 0} {
			in := roomy(b[:n], 7)
			was := slices.Clone(whole(in))
			mroute.Take(in, 4)
			mroute.Parse(in, 16)
			mroute.ReadRow(in, 4)
			wantLeft(t, "a reading call", in, was)
		}
		in := roomy(cat(b, b), 9)
		was := slices.Clone(whole(in))
		mroute.Take(in, 4)
		mroute.Parse(in, 4)
		mroute.ReadRow(in, 4)
		mroute.ReadRow(in, 16)
		wantLeft(t, "a reading call", in, was)
	}
}

func TestAnswersAreNewBytes(t *testing.T) { // P7.7, W6: neither does an answer change with what was handed in, nor with another answer
	for _, m := range rights() {
		a, b := written(t, m), written(t, m)
		want := slices.Clone(a)
		spoil(b, 9)
		in := roomy([]api.Mroute{m, m}, right(2))
		was := slices.Clone(whole(in))
		x, _ := mroute.Row(in...)
		y, _ := mroute.Row(in...)
		one, _ := mroute.Row(m)
		spoil(y, 9)
		wantLeft(t, "writing on an answer", in, was)
		spoil(one, 9)
		spoil(in, right(2))
		if !bytes.Equal(a, want) || !bytes.Equal(written(t, m), want) || !bytes.Equal(x, cat(want, want)) {
			t.Errorf("%v: behind writing on answers and what was handed in: %v, %v, want %v", m, a, x, want)
		}
	}
}

func TestAnswersAreNewRoutes(t *testing.T) { // P7.7, W6: also the key, whose bytes came within others
	for _, m := range rights() {
		b := written(t, m)
		size := sizesOf(t, m)[0]
		in := roomy(cat(b, b), 7)
		was := slices.Clone(whole(in))
		one, _, e := mroute.Take(in, size)
		only, e2 := mroute.Parse(in[:len(b)], size)
		row, e3 := mroute.ReadRow(in, size)
		other, _ := mroute.ReadRow(in, size)
		spoil(other, right(2))
		wantLeft(t, "writing on an answer", in, was)
		spoil(in, 9)
		if e != api.OK || e2 != api.OK || e3 != api.OK || one != m || only != m || !slices.Equal(row, []api.Mroute{m, m}) {
			t.Errorf("behind writing on what was handed in: %v, %v, %v, want %v", one, only, row, m)
		}
	}
}
