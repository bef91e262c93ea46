package cursor_test

import (
	"bytes"
	"testing"

	"vinery/cursor"
)

var _ func([]byte, []byte) int = cursor.Order

func TestOrder(t *testing.T) { // P1.4
	for _, c := range []struct {
		a, b string
		want int
	}{
		{"", "", 0}, {"", "\x00", -1}, {"", "a", -1},
		{"a", "a", 0}, {"a", "b", -1}, {"a", "ab", -1}, {"b", "ab", 1},
		{"ab", "abc", -1}, {"abd", "abc\xFF", 1}, {"a\x00", "a", 1},
		{"\x7F", "\x80", -1}, {"\x00", "\xFF", -1}, {"\xFF", "\x00\x00\x00", 1},
		{"abc", "abd", -1}, {"aXc", "abc", -1}, {"same", "same", 0},
	} {
		if got := cursor.Order([]byte(c.a), []byte(c.b)); got != c.want {
			t.Errorf("Order(%q, %q): %d, want %d", c.a, c.b, got, c.want)
		}
		if got := cursor.Order([]byte(c.b), []byte(c.a)); got != -c.want {
			t.Errorf("Order(%q, %q): %d, want %d", c.b, c.a, got, -c.want)
		}
	}
}

func TestOrderOfNone(t *testing.T) { // W5: a nil row and an empty one are the same
	for _, a := range [][]byte{nil, {}} {
		for _, b := range [][]byte{nil, {}} {
			if got := cursor.Order(a, b); got != 0 {
				t.Errorf("none and none: %d", got)
			}
		}
		if x, y := cursor.Order(a, []byte{0}), cursor.Order([]byte{0}, a); x != -1 || y != 1 {
			t.Errorf("none and one: %d, %d", x, y)
		}
	}
}

// rows are all rows of at most so many bytes, of some bytes only, each once.
func rows(most int) [][]byte {
	out := [][]byte{nil}
	for from, n := 0, 0; n < most; n++ {
		to := len(out)
		for _, a := range out[from:to] {
			for _, b := range []byte{0, 1, 0x7F, 0x80, 0xFF} {
				out = append(out, append(bytes.Clone(a), b))
			}
		}
		from = to
	}
	return out
}

func TestOrderIsAnOrder(t *testing.T) { // P1.7
	all := rows(2)
	for i, a := range all {
		for j, b := range all {
			ab := cursor.Order(a, b)
			if ab < -1 || ab > 1 || ab != -cursor.Order(b, a) || (ab == 0) != (i == j) {
				t.Fatalf("Order(%v, %v): %d, the other way %d", a, b, ab, cursor.Order(b, a))
			}
			for _, c := range all {
				if ab <= 0 && cursor.Order(b, c) <= 0 && cursor.Order(a, c) > 0 {
					t.Fatalf("%v, %v, %v do not stand one behind the other", a, b, c)
				}
			}
		}
	}
}

func TestOrderLeavesItsRows(t *testing.T) { // P1.5
	room := []byte{1, 2, 3, 4, 5, 6}
	cursor.Order(room[:2], room[1:4])
	cursor.Order(room[:0], room[:3])
	if !bytes.Equal(room, []byte{1, 2, 3, 4, 5, 6}) {
		t.Errorf("what was handed in: %v", room)
	}
}
