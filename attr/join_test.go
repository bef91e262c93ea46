package attr_test

import (
	"bytes"
	"math"
	"testing"

	"vinery/api"
	"vinery/attr"
)

// wantJoined wants attributes to be these bytes, and these bytes to be cut into them.
func wantJoined(t *testing.T, want []byte, l ...api.Raw) {
	t.Helper()
	if b, e := attr.Join(l...); e != api.OK || !bytes.Equal(b, want) {
		t.Errorf("Join(%v): %v, %v, want %v", l, b, e, want)
	}
	wantSplit(t, want, l...)
}

// wantNotJoined wants them to have an error.
func wantNotJoined(t *testing.T, want api.Errno, l ...api.Raw) {
	t.Helper()
	if b, e := attr.Join(l...); e != want || len(b) != 0 {
		t.Errorf("Join of %d: %v, %v, want the error %v", len(l), b, e, want)
	}
}

func TestJoinHowMany(t *testing.T) { // P9.1, P9.6: none, one, MaxAttrs, one more
	wantJoined(t, nil)
	if b, e := attr.Join([]api.Raw{}...); e != api.OK || len(b) != 0 {
		t.Errorf("Join of an empty row: %v, %v", b, e)
	}
	one := raw(64, 9, 7, 8)
	for _, n := range []int{1, 2, 3, mostAttrs - 1, mostAttrs} {
		wantJoined(t, times[byte](n, 64, 9, 2, 7, 8), times(n, one)...)
	}
	wantJoined(t, []byte{64, 1, 1, 0, 128, 4, 4, 0, 0, 0, 9, 0, 0, 0}, raw(64, 1, 0), raw(128, 4, 0, 0, 0, 9), raw(0, 0))
	for _, n := range []int{mostAttrs + 1, mostAttrs + 2, 2 * mostAttrs, 1000} {
		wantNotJoined(t, api.ErrLong, times(n, one)...)
	}
}

func TestJoinFlagsAndKinds(t *testing.T) { // P9.1: Flags and Kinds at their edges
	for n := range 256 {
		wantJoined(t, []byte{128, byte(n), 1, 5}, raw(128, n, 5))
		if n&long != 0 {
			wantNotJoined(t, api.ErrArg, raw(n, 1, 5))
			wantNotJoined(t, api.ErrArg, raw(n, 1, count(256)...))
			continue
		}
		wantJoined(t, []byte{byte(n), 1, 1, 5}, raw(n, 1, 5))
		wantJoined(t, rows([]byte{byte(n + long), 1, 1, 0}, count(256)), raw(n, 1, count(256)...))
	}
	for _, odd := range []int{-1, -2, -16, -17, -256, 256, 257, 320, 512, 1 << 32, 1<<32 + 64, math.MinInt, math.MaxInt} {
		wantNotJoined(t, api.ErrArg, raw(odd, 1, 5))
		wantNotJoined(t, api.ErrArg, raw(64, odd, 5))
		wantNotJoined(t, api.ErrArg, raw(odd, odd))
	}
}

func TestJoinValues(t *testing.T) { // P9.1, P9.6: values at their edges
	for _, n := range []int{0, 1, 2, 254, 255} {
		wantJoined(t, rows([]byte{64, 9, byte(n)}, count(n)), raw(64, 9, count(n)...))
	}
	for _, n := range []int{256, 257, 511, 512, mostValue - 1, mostValue} {
		b := rows([]byte{64 + long, 9, byte(n >> 8), byte(n)}, count(n))
		wantJoined(t, b, raw(64, 9, count(n)...))
		wantJoined(t, rows([]byte{1, 2, 0}, b, b, []byte{1, 2, 0}), raw(1, 2), raw(64, 9, count(n)...), raw(64, 9, count(n)...), raw(1, 2))
	}
	for _, n := range []int{mostValue + 1, mostValue + 2, 65535, 65536, 65537, 1 << 20} {
		wantNotJoined(t, api.ErrLong, raw(64, 9, count(n)...))
	}
	most := rows([]byte{80, 9, 16, 0}, count(mostValue))
	wantJoined(t, times(mostAttrs, most...), times(mostAttrs, raw(64, 9, count(mostValue)...))...)
}

func TestJoinTellsTheFirstError(t *testing.T) { // P9.1, W4: of attributes the first one's, of one what the promise names first
	fine := raw(64, 9, 7, 8)
	tooLong := raw(64, 9, count(mostValue+1)...)
	for _, wrong := range []api.Raw{raw(-1, 9), raw(256, 9), raw(64+long, 9), raw(64, -1), raw(64, 256)} {
		both := wrong
		both.Value = count(mostValue + 1)
		wantNotJoined(t, api.ErrArg, wrong, tooLong)
		wantNotJoined(t, api.ErrLong, tooLong, wrong)
		wantNotJoined(t, api.ErrArg, both)
		wantNotJoined(t, api.ErrArg, both, tooLong)
		wantNotJoined(t, api.ErrLong, tooLong, both)
		wantNotJoined(t, api.ErrArg, fine, wrong, fine, tooLong)
		wantNotJoined(t, api.ErrLong, fine, tooLong, wrong)
		wantNotJoined(t, api.ErrArg, rows(times(mostAttrs-1, fine), []api.Raw{wrong})...)
		wantNotJoined(t, api.ErrLong, rows([]api.Raw{wrong}, times(mostAttrs, fine))...)
		wantNotJoined(t, api.ErrLong, rows(times(mostAttrs, fine), []api.Raw{wrong})...)
		wantNotJoined(t, api.ErrLong, times(mostAttrs+1, both)...)
	}
	wantNotJoined(t, api.ErrLong, rows(times(mostAttrs-1, fine), []api.Raw{tooLong})...)
}

func TestLongerCountsThanNeedBe(t *testing.T) { // P9.6: what was joined again is shorter, and is the same attributes
	for _, n := range []int{0, 1, 254, 255} {
		b := rows([]byte{64 + long, 9, 0, byte(n)}, count(n))
		l, e := attr.Split(b)
		if e != api.OK {
			t.Fatalf("Split(%v): %v", b, e)
		}
		wantJoined(t, rows([]byte{64, 9, byte(n)}, count(n)), l...)
	}
}
