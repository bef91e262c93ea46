package addr_test

import (
	"testing"

	"vinery/addr"
	"vinery/api"
)

var _ func(a, b api.Addr) int = addr.Compare

func TestCompare(t *testing.T) { // P2.3
	for _, c := range []struct {
		a, b api.Addr
		want int
	}{
		{api.Addr{}, api.Addr{}, 0},
		{api.Addr{}, v4(0, 0, 0, 0), -1},
		{full(4), v6(), -1}, // by Size first
		{v4(10, 0, 0, 1), v4(10, 0, 0, 1), 0},
		{v4(9, 255, 255, 255), v4(10, 0, 0, 0), -1},
		{v4(10, 0, 0, 2), v4(10, 0, 0, 10), -1}, // by bytes, not by texts
		{v4(127, 0, 0, 0), v4(128, 0, 0, 0), -1},
		{v4(0, 0, 0, 0), full(4), -1},
		{v6(1), v6(1), 0},
		{v6(), v6(0, 0, 0, 0, 0, 0, 0, 1), -1},
		{v6(1, 2, 3, 4, 5, 6, 7, 8), v6(1, 2, 3, 4, 5, 6, 8), -1},
		{v6(0x7fff), v6(0x8000), -1},
	} {
		if got, back := addr.Compare(c.a, c.b), addr.Compare(c.b, c.a); got != c.want || back != -c.want {
			t.Errorf("%v and %v: %d, the other way %d; want %d", c.a, c.b, got, back, c.want)
		}
	}
}

func TestCompareGoesByAllBytes(t *testing.T) { // P2.3: those behind the Size too
	for _, size := range []int{-4, 0, 3, 4, 16, 17} {
		for i := range 16 {
			a, b := api.Addr{Size: size}, api.Addr{Size: size}
			b.B[i] = 1
			if addr.Compare(a, b) != -1 || addr.Compare(b, a) != 1 || addr.Compare(b, b) != 0 {
				t.Errorf("Size %d, byte %d", size, i)
			}
			if a.B = full(16).B; addr.Compare(api.Addr{Size: size - 1, B: a.B}, b) != -1 {
				t.Errorf("Size %d and one less, byte %d", size, i)
			}
		}
	}
}

func TestCompareIsAnOrder(t *testing.T) { // P2.3, of those that are not right too
	all := append(right(), wrong()...)
	for i, a := range all {
		for j, b := range all {
			ab := addr.Compare(a, b)
			if ab < -1 || ab > 1 || ab != -addr.Compare(b, a) || (ab == 0) != (i == j) {
				t.Fatalf("%v and %v: %d, the other way %d", a, b, ab, addr.Compare(b, a))
			}
			if a.Size < b.Size && ab != -1 {
				t.Fatalf("%v and %v: %d", a, b, ab)
			}
			for _, c := range all {
				if ab <= 0 && addr.Compare(b, c) <= 0 && addr.Compare(a, c) > 0 {
					t.Fatalf("%v, %v, %v do not stand one behind the other", a, b, c)
				}
			}
		}
	}
}
