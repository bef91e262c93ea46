package cursor_test

import (
	"bytes"
	"math"
	"slices"
	"testing"

	"vinery/cursor"
)

// The calls have the forms that the chapter lists.
var (
	_ func([]byte) *cursor.Reader              = cursor.Open
	_ func(*cursor.Reader, int) int            = (*cursor.Reader).Num
	_ func(*cursor.Reader, int) []byte         = (*cursor.Reader).Take
	_ func(*cursor.Reader, int) *cursor.Reader = (*cursor.Reader).Sub
	_ func(*cursor.Reader) int                 = (*cursor.Reader).Left
	_ func(*cursor.Reader) bool                = (*cursor.Reader).Bad
)

// never are sizes and counts that are there in no reader.
var never = []int{math.MinInt, math.MinInt32, -256, -1, math.MaxInt32 + 1, 1<<61 + 1, math.MaxInt}

// wantGood fails, if r is not a good reader with so many bytes left.
func wantGood(t *testing.T, r *cursor.Reader, left int) {
	t.Helper()
	if r.Bad() || r.Left() != left {
		t.Errorf("bad %v, %d left; want a good one with %d left", r.Bad(), r.Left(), left)
	}
}

// wantBad fails, if r is not bad, or does not stay so whatever it is asked.
func wantBad(t *testing.T, r *cursor.Reader) {
	t.Helper()
	for range 2 {
		if !r.Bad() || r.Left() != 0 {
			t.Errorf("bad %v, %d left; want a bad one with none", r.Bad(), r.Left())
		}
		for _, n := range append([]int{0, 1, 2, 3, 4, 5}, never...) {
			if x := r.Num(n); x != 0 {
				t.Errorf("Num(%d) of a bad one: %d", n, x)
			}
			if b := r.Take(n); len(b) != 0 {
				t.Errorf("Take(%d) of a bad one: %v", n, b)
			}
			if s := r.Sub(n); !s.Bad() || s.Left() != 0 {
				t.Errorf("Sub(%d) of a bad one: bad %v, %d left", n, s.Bad(), s.Left())
			}
		}
	}
}

func TestOpen(t *testing.T) { // the word: at their beginning, good
	for _, b := range [][]byte{nil, {}, {7}, {1, 2, 3, 4, 5}, make([]byte, 70000)} {
		r := cursor.Open(b)
		wantGood(t, r, len(b))
		if got := r.Take(len(b)); !bytes.Equal(got, b) {
			t.Errorf("of %d bytes: %d others", len(b), len(got))
		}
		wantGood(t, r, 0)
	}
}

func TestNum(t *testing.T) { // P1.1
	b := []byte{0x81, 0x02, 0xFF, 0x00, 0x7F, 0x80}
	for _, c := range []struct{ size, want int }{{1, 0x81}, {2, 0x8102}, {3, 0x8102FF}, {4, 0x8102FF00}} {
		r := cursor.Open(b)
		if n := r.Num(c.size); n != c.want {
			t.Errorf("Num(%d): %d, want %d", c.size, n, c.want)
		}
		wantGood(t, r, len(b)-c.size)
		if n := r.Num(1); n != int(b[c.size]) {
			t.Errorf("behind Num(%d): %d, want %d", c.size, n, b[c.size])
		}
	}
}

func TestNumEnds(t *testing.T) { // P1.1: the least and the greatest number of each size, of just as many bytes
	for size := 1; size <= 4; size++ {
		for _, c := range []struct {
			fill byte
			want int
		}{{0, 0}, {0xFF, 1<<(8*size) - 1}} {
			r := cursor.Open(bytes.Repeat([]byte{c.fill}, size))
			if n := r.Num(size); n != c.want {
				t.Errorf("Num(%d): %d, want %d", size, n, c.want)
			}
			wantGood(t, r, 0)
			if n := r.Num(1); n != 0 {
				t.Errorf("behind the end: %d", n)
			}
			wantBad(t, r)
		}
	}
}

func TestNumRefuses(t *testing.T) { // P1.1: a size that may not be, too few bytes
	for _, size := range append([]int{0, 5, 8}, never...) {
		r := cursor.Open([]byte{1, 2, 3, 4, 5, 6, 7, 8, 9})
		if n := r.Num(size); n != 0 {
			t.Errorf("Num(%d): %d", size, n)
		}
		wantBad(t, r)
	}
	for size := 1; size <= 4; size++ {
		for left := range size {
			r := cursor.Open([]byte{9, 1, 2, 3}[:1+left])
			r.Num(1)
			if n := r.Num(size); n != 0 {
				t.Errorf("Num(%d) of %d bytes: %d", size, left, n)
			}
			wantBad(t, r)
		}
	}
}

func TestTake(t *testing.T) { // P1.1
	b := []byte{3, 1, 4, 1, 5}
	for n := 0; n <= len(b); n++ {
		r := cursor.Open(b)
		if got := r.Take(n); !bytes.Equal(got, b[:n]) {
			t.Errorf("Take(%d): %v", n, got)
		}
		wantGood(t, r, len(b)-n)
		if got := r.Take(len(b) - n); !bytes.Equal(got, b[n:]) {
			t.Errorf("behind Take(%d): %v", n, got)
		}
		wantGood(t, r, 0)
		if got := r.Take(0); len(got) != 0 {
			t.Errorf("Take(0) at the end: %v", got)
		}
		wantGood(t, r, 0)
	}
}

func TestTakeRefuses(t *testing.T) { // P1.1: one more than are left, below 0
	for _, b := range [][]byte{nil, {}, {1}, {1, 2, 3}} {
		for _, n := range append([]int{len(b) + 1, len(b) + 2}, never...) {
			r := cursor.Open(b)
			if got := r.Take(n); len(got) != 0 {
				t.Errorf("Take(%d) of %v: %v", n, b, got)
			}
			wantBad(t, r)
		}
	}
	r := cursor.Open([]byte{1, 2, 3})
	r.Take(1)
	if got := r.Take(3); len(got) != 0 {
		t.Errorf("Take(3) of two that are left: %v", got)
	}
	wantBad(t, r)
}

func TestSub(t *testing.T) { // P1.2
	b := []byte{3, 1, 4, 1, 5}
	for n := 0; n <= len(b); n++ {
		r := cursor.Open(b)
		s := r.Sub(n)
		wantGood(t, r, len(b)-n)
		wantGood(t, s, n)
		if got := s.Take(n); !bytes.Equal(got, b[:n]) {
			t.Errorf("Sub(%d): %v", n, got)
		}
		if got := s.Take(1); len(got) != 0 {
			t.Errorf("Sub(%d) reads behind its end: %v", n, got)
		}
		wantBad(t, s)
		wantGood(t, r, len(b)-n)
		if got := r.Take(len(b) - n); !bytes.Equal(got, b[n:]) {
			t.Errorf("behind Sub(%d): %v", n, got)
		}
	}
}

func TestSubOfSub(t *testing.T) { // P1.2: each has a place of its own
	r := cursor.Open([]byte{1, 2, 3, 4, 5, 6})
	r.Num(1)
	s := r.Sub(4)
	s.Num(1)
	u := s.Sub(2)
	if n := u.Num(2); n != 0x0304 {
		t.Errorf("the inmost: %#x", n)
	}
	wantGood(t, u, 0)
	wantGood(t, s, 1)
	wantGood(t, r, 1)
	if a, b := s.Num(1), r.Num(1); a != 5 || b != 6 {
		t.Errorf("the outer ones: %d, %d", a, b)
	}
	r.Num(1)
	wantBad(t, r)
	wantGood(t, s, 0)
}

func TestSubRefuses(t *testing.T) { // P1.2: bad behind Take, then both are
	for _, b := range [][]byte{nil, {}, {1}, {1, 2, 3}} {
		for _, n := range append([]int{len(b) + 1}, never...) {
			r := cursor.Open(b)
			s := r.Sub(n)
			wantBad(t, s)
			wantBad(t, r)
		}
	}
}

func TestLeft(t *testing.T) { // P1.2
	r := cursor.Open(make([]byte, 12))
	left := []int{r.Left()}
	for _, step := range []func(){
		func() { r.Num(1) }, func() { r.Num(4) }, func() { r.Take(0) }, func() { r.Take(2) }, func() { r.Sub(3) }, func() { r.Left(); r.Bad() }, func() { r.Num(2) },
	} {
		step()
		left = append(left, r.Left())
	}
	if want := []int{12, 11, 7, 7, 5, 2, 2, 0}; !slices.Equal(left, want) {
		t.Errorf("left %v, want %v", left, want)
	}
	wantGood(t, r, 0)
}

func TestBadStaysBad(t *testing.T) { // P1.7, by each of the ways to become so
	for i, spoil := range []func(*cursor.Reader){
		func(r *cursor.Reader) { r.Num(0) },
		func(r *cursor.Reader) { r.Num(5) },
		func(r *cursor.Reader) { r.Take(2); r.Num(3) },
		func(r *cursor.Reader) { r.Take(5) },
		func(r *cursor.Reader) { r.Take(-1) },
		func(r *cursor.Reader) { r.Sub(5) },
		func(r *cursor.Reader) { r.Sub(-1) },
	} {
		r := cursor.Open([]byte{1, 2, 3, 4})
		spoil(r)
		if !r.Bad() {
			t.Errorf("way %d: good", i)
		}
		wantBad(t, r)
	}
}

func TestReaderKeepsItsBytes(t *testing.T) { // P1.5: as they were
	room := []byte{1, 2, 3, 4, 5, 6, 7, 8}
	b := room[:5]
	r := cursor.Open(b)
	for i := range room {
		room[i] = 99
	}
	s := r.Sub(2)
	if x, y, n := s.Take(2), r.Take(1), r.Num(2); !bytes.Equal(x, []byte{1, 2}) || !bytes.Equal(y, []byte{3}) || n != 0x0405 {
		t.Errorf("read %v, %v, %d", x, y, n)
	}
	if r.Take(1); !r.Bad() {
		t.Error("reads on into the spare room")
	}
	if !bytes.Equal(room, bytes.Repeat([]byte{99}, 8)) {
		t.Errorf("what was handed in: %v", room)
	}
}

// scribble writes over a row, and over the room behind it.
func scribble(b []byte) {
	b = b[:cap(b)]
	for i := range b {
		b[i] ^= 0xFF
	}
}

func TestTakenIsNew(t *testing.T) { // P1.5: what was taken shares nothing with the reader, nor with what it tells next
	b := []byte{1, 2, 3, 4, 5, 6, 7, 8}
	r := cursor.Open(b)
	first := r.Take(2)
	s := r.Sub(4)
	second := s.Take(2)
	for _, got := range [][]byte{first, second} {
		scribble(got)
	}
	if third := s.Take(2); !bytes.Equal(third, []byte{5, 6}) {
		t.Errorf("of the inner one: %v", third)
	}
	rest := r.Take(2)
	scribble(rest)
	if !bytes.Equal(first, []byte{0xFE, 0xFD}) || !bytes.Equal(second, []byte{0xFC, 0xFB}) {
		t.Errorf("taken before: %v, %v", first, second)
	}
	scribble(r.Take(0))
	if !bytes.Equal(b, []byte{1, 2, 3, 4, 5, 6, 7, 8}) || !bytes.Equal(rest, []byte{0xF8, 0xF7}) {
		t.Errorf("what was handed in: %v; the rest: %v", b, rest)
	}
}

func TestTwoReadersOfTheSame(t *testing.T) { // W2: each its own
	b := []byte{1, 2, 3}
	x, y := cursor.Open(b), cursor.Open(b)
	x.Num(4)
	wantBad(t, x)
	wantGood(t, y, 3)
	if n := y.Num(3); n != 0x010203 {
		t.Errorf("the other one: %#x", n)
	}
}
