package family_test

import (
	"math"
	"testing"

	"vinery/api"
	"vinery/family"
)

// odd are numbers that are neither a size nor what stands for one, nor a Safi.
var odd = []int{0, 3, 6, 8, 15, 17, 32, 127, 129, 256, 257, 258, 256 + 4, 256 + 128, 1<<32 + 1, 1<<32 + 4, -1, -2, -4, -16, math.MinInt, math.MinInt + 4, math.MaxInt}

func TestNumbers(t *testing.T) {
	for size, number := range map[int]byte{4: 1, 16: 2} {
		if n := family.Number(size); n != number {
			t.Errorf("Number(%d): %d, want %d", size, n, number)
		}
		if s := family.Size(int(number)); s != size {
			t.Errorf("Size(%d): %d, want %d", number, s, size)
		}
	}
	for _, n := range append(odd, 1, 2, 5) {
		if number := family.Number(n); number != 0 {
			t.Errorf("Number(%d): %d, want none", n, number)
		}
	}
	for _, n := range append(odd, 4, 5, 16) {
		if size := family.Size(n); size != 0 {
			t.Errorf("Size(%d): %d, want none", n, size)
		}
	}
}

func TestKnown(t *testing.T) {
	for _, size := range append(odd, 1, 2, 4, 5, 16, 128) {
		for _, safi := range append(odd, 1, 2, 4, 5, 16, 128) {
			want := (size == 4 || size == 16) && (safi == 5 || safi == 128)
			if got := family.Known(api.Family{Size: size, Safi: safi}); got != want {
				t.Errorf("Known(%d, %d): %v", size, safi, got)
			}
		}
	}
}
