package cursor_test

import (
	"bytes"
	"testing"

	"vinery/cursor"
)

// model is a reader as the chapter's words say it: bytes, a place from their beginning on, good or bad.
type model struct {
	b   []byte
	at  int
	bad bool
}

func (m *model) take(n int) []byte {
	if m.bad || n < 0 || n > len(m.b)-m.at {
		m.bad = true
		return nil
	}
	m.at += n
	return m.b[m.at-n : m.at]
}

func (m *model) num(size int) int {
	if size < 1 || size > 4 {
		m.bad = true
	}
	n := 0
	for _, b := range m.take(size) {
		n = 256*n + int(b)
	}
	return n
}

func (m *model) sub(n int) *model {
	b := m.take(n)
	return &model{b: b, bad: m.bad}
}

func (m *model) left() int {
	if m.bad {
		return 0
	}
	return len(m.b) - m.at
}

// pair is a reader and its model.
type pair struct {
	r *cursor.Reader
	m *model
}

// agree tells whether both tell the same of themselves.
func (p pair) agree() bool { return p.r.Bad() == p.m.bad && p.r.Left() == p.m.left() }

// dice rolls the same numbers in each run.
type dice uint64

func (d *dice) roll(sides int) int {
	*d = *d*6364136223846793005 + 1442695040888963407
	return int(uint64(*d)>>33) % sides
}

func TestReaderAsItsModel(t *testing.T) { // P1.1, P1.2, P1.5, P1.7, in any order of calls
	d := dice(1)
	for round := range 3000 {
		b := make([]byte, d.roll(40))
		for i := range b {
			b[i] = byte(d.roll(256))
		}
		pairs := []pair{{cursor.Open(b), &model{b: bytes.Clone(b)}}}
		scribble(b)
		for range 30 {
			p := pairs[d.roll(len(pairs))]
			n := d.roll(8) - 1
			switch d.roll(8) {
			case 0, 1, 2:
				if x, y := p.r.Num(n), p.m.num(n); x != y {
					t.Fatalf("round %d: Num(%d): %d, want %d", round, n, x, y)
				}
			case 3, 4, 5:
				x, y := p.r.Take(n), p.m.take(n)
				if !bytes.Equal(x, y) {
					t.Fatalf("round %d: Take(%d): %v, want %v", round, n, x, y)
				}
				scribble(x)
			default:
				n *= 3
				pairs = append(pairs, pair{p.r.Sub(n), p.m.sub(n)})
			}
			for i, p := range pairs {
				if !p.agree() {
					t.Fatalf("round %d, reader %d: bad %v, %d left; want %v, %d", round, i, p.r.Bad(), p.r.Left(), p.m.bad, p.m.left())
				}
			}
		}
	}
}
