package rd_test

import (
	"bytes"
	"cmp"
	"testing"

	"vinery/api"
	"vinery/rd"
)

var _ func(a, b api.RD) int = rd.Compare

// wantOrder wants two to stand so.
func wantOrder(t *testing.T, a, b api.RD, want int) {
	t.Helper()
	if got, back := rd.Compare(a, b), rd.Compare(b, a); got != want || back != -want {
		t.Errorf("%v and %v: %d, the other way %d; want %d", a, b, got, back, want)
	}
}

func TestCompare(t *testing.T) { // P3.3
	for _, c := range []struct {
		a, b api.RD
		want int
	}{
		{api.RD{}, api.RD{}, 0},
		{api.RD{0, 1}, api.RD{0, 1}, 0},
		{api.RD{0, 0, 255, 255, 255, 255, 255, 255}, api.RD{0, 1}, -1}, // by kind first
		{api.RD{0, 1, 255, 255, 255, 255, 255, 255}, api.RD{0, 2}, -1},
		{api.RD{0, 2, 255, 255, 255, 255, 255, 255}, api.RD{0, 3}, -1}, // those not known behind the others
		{api.RD{0, 255}, api.RD{1, 0}, -1},
		{api.RD{127, 255}, api.RD{128, 0}, -1},
		{api.RD{0, 9, 0, 0, 0, 0, 0, 1}, api.RD{0, 9, 0, 0, 0, 0, 0, 2}, -1},
		{api.RD{255, 255, 255, 255, 255, 255, 255, 254}, api.RD{255, 255, 255, 255, 255, 255, 255, 255}, -1},
	} {
		wantOrder(t, c.a, c.b, c.want)
	}
}

func TestCompareGoesByAllBytes(t *testing.T) { // P3.3: the first one that is unlike decides
	for i := range 8 {
		for n := range 255 {
			a, b := api.RD{}, api.RD{}
			a[i], b[i] = byte(n), byte(n+1)
			wantOrder(t, a, b, -1)
			for j := i + 1; j < 8; j++ {
				a[j] = 255
			}
			wantOrder(t, a, b, -1)
			wantOrder(t, a, a, 0)
		}
	}
}

func TestCompareByNumbers(t *testing.T) { // P3.5: by HIGH, then by LOW, as numbers
	for _, k := range kinds {
		var all [][2]int
		for _, high := range edges {
			for _, low := range edges {
				if high <= k.high && low <= k.low {
					all = append(all, [2]int{high, low})
				}
			}
		}
		for _, a := range all {
			for _, b := range all {
				want := cmp.Or(cmp.Compare(a[0], b[0]), cmp.Compare(a[1], b[1]))
				wantOrder(t, bytesOf(k.kind, a[0], a[1]), bytesOf(k.kind, b[0], b[1]), want)
			}
		}
	}
}

func TestCompareIsAnOrder(t *testing.T) { // P3.3
	var all []api.RD
	for _, kind := range []int{0, 1, 2, 3, 256, 32768, 65535} {
		for _, n := range []int{0, 1, 32767, 32768, 65535} {
			all = append(all, bytesOf(kind, n, 0), bytesOf(kind, 7, n))
		}
	}
	for _, a := range all {
		for _, b := range all {
			wantOrder(t, a, b, bytes.Compare(a[:], b[:]))
			for _, c := range all {
				if rd.Compare(a, b) <= 0 && rd.Compare(b, c) <= 0 && rd.Compare(a, c) > 0 {
					t.Fatalf("%v, %v, %v do not stand one behind the other", a, b, c)
				}
			}
		}
	}
}
