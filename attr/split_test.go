package attr_test

import (
	"testing"

	"vinery/api"
	"vinery/attr"
)

// wantSplit wants bytes to be cut into these.
func wantSplit(t *testing.T, b []byte, want ...api.Raw) {
	t.Helper()
	if l, e := attr.Split(b); e != api.OK || !equalRaws(l, want) {
		t.Errorf("Split of %d bytes, %v: %v, %v, want %v", len(b), b[:min(len(b), 9)], l, e, want)
	}
}

// wantNoSplit wants them not to be cut.
func wantNoSplit(t *testing.T, want api.Errno, b ...byte) {
	t.Helper()
	if l, e := attr.Split(b); e != want || len(l) != 0 {
		t.Errorf("Split of %d bytes, %v: %v, %v, want the error %v", len(b), b[:min(len(b), 9)], l, e, want)
	}
}

func TestSplitFew(t *testing.T) { // P9.1: no bytes, one, two, three, four
	wantSplit(t, nil)
	wantSplit(t, []byte{})
	for _, x := range []byte{0, 1, 15, 16, 64, 128, 239, 240, 255} {
		wantNoSplit(t, api.ErrEnd, x)
		wantNoSplit(t, api.ErrEnd, x, 1)
		wantNoSplit(t, api.ErrEnd, x, 1, 1)
		if x&long != 0 {
			wantNoSplit(t, api.ErrEnd, x, 1, 0)
			wantNoSplit(t, api.ErrEnd, x, 1, 0, 1)
			wantSplit(t, []byte{x, 1, 0, 0}, raw(int(x)-long, 1))
			continue
		}
		wantSplit(t, []byte{x, 1, 0}, raw(int(x), 1))
		wantSplit(t, []byte{x, 1, 1, 9}, raw(int(x), 1, 9))
		wantNoSplit(t, api.ErrEnd, x, 1, 0, 0)
	}
}

func TestSplitExample(t *testing.T) { // P9.1: the chapter's
	wantSplit(t, []byte{64, 1, 1, 0, 128, 4, 4, 0, 0, 0, 9}, raw(64, origin, 0), raw(128, med, 0, 0, 0, 9))
}

func TestSplitCounts(t *testing.T) { // P9.1: of one byte, and of two; of each one too few
	for _, n := range []int{0, 1, 2, 127, 128, 254, 255} {
		wantCount(t, n, []byte{64, 9, byte(n)})
	}
	for _, n := range []int{0, 1, 2, 254, 255, 256, 257, 511, 512, mostValue - 1, mostValue, mostValue + 1, 65535} {
		wantCount(t, n, []byte{64 + long, 9, byte(n >> 8), byte(n)})
	}
}

// wantCount wants a head to have so many bytes behind it, no less.
func wantCount(t *testing.T, n int, head []byte) {
	t.Helper()
	b := rows(head, count(n))
	one, last := raw(64, 9, count(n)...), raw(2, 3, 4)
	wantSplit(t, b, one)
	wantSplit(t, rows(b, []byte{2, 3, 1, 4}), one, last)
	wantSplit(t, rows([]byte{2, 3, 1, 4}, b, b), last, one, one)
	wantNoSplit(t, api.ErrEnd, b[:len(b)-1]...)
	wantNoSplit(t, api.ErrEnd, b[:max(len(b)/2, 1)]...)
	wantNoSplit(t, api.ErrEnd, rows(b, b[:len(b)-1])...)
	wantNoSplit(t, api.ErrEnd, rows(b, []byte{0})...)
}

func TestSplitFlagsAndKinds(t *testing.T) { // P9.1: of each bit, but FlagLong, which is not kept; kinds are not looked at
	for n := range 256 {
		b := []byte{byte(n), 3, 0, 0, 0}
		if n&long != 0 {
			wantSplit(t, b[:4], raw(n-long, 3))
		} else {
			wantSplit(t, b[:3], raw(n, 3))
		}
		wantSplit(t, []byte{64, byte(n), 1, 5}, raw(64, n, 5))
		wantSplit(t, []byte{80, byte(n), 0, 1, 5}, raw(64, n, 5))
	}
}

func TestSplitMany(t *testing.T) { // P9.1: MaxAttrs with nothing, with a byte, with a whole one behind them
	one := []byte{64, 9, 2, 7, 8}
	for _, n := range []int{1, 2, mostAttrs - 1, mostAttrs} {
		wantSplit(t, times(n, one...), times(n, raw(64, 9, 7, 8))...)
		wantSplit(t, times[byte](n, 0, 1, 0), times(n, raw(0, 1))...)
		wantNoSplit(t, api.ErrEnd, times(n, one...)[:5*n-1]...)
		wantNoSplit(t, api.ErrEnd, times(n, one...)[:5*n-4]...)
	}
	wantNoSplit(t, api.ErrEnd, rows(times(mostAttrs-1, one...), []byte{64})...)
	all := times(mostAttrs, one...)
	for _, behind := range [][]byte{{0}, {64}, {255}, {64, 9}, {64, 9, 2}, {64, 9, 2, 7}, one, {0, 0, 0}, rows(one, one), times(200, one...)} {
		wantNoSplit(t, api.ErrLong, rows(all, behind)...)
	}
}
