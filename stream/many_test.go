package stream_test

import (
	"math/rand/v2"
	"slices"
	"testing"

	"vinery/api"
	"vinery/message"
	"vinery/stream"
)

// pick is one of some.
func pick[T any](r *rand.Rand, l ...T) T { return l[r.IntN(len(l))] }

// seldom is true once in so many times.
func seldom(r *rand.Rand, often int) bool { return r.IntN(often) == 0 }

// anyRight is a message that is right.
func anyRight(r *rand.Rand) api.Message {
	m := pick(r, rights()...)
	switch m.Kind {
	case kindOpen:
		m.Open.AS, m.Open.Hold = 1+r.IntN(1<<32-1), pick(r, 0, 3, 90)
	case kindUpdate:
		if len(m.Update.Reach) > 0 {
			m.Update.Attrs.Med = r.IntN(1000)
		}
	case kindNote:
		m.Note.Data = count(pick(r, 0, 1, r.IntN(40), r.IntN(most-headSize-1)))
	case kindRefresh:
		m = asRefresh(pick(r, 4, 16), pick(r, 5, 128))
	}
	return m
}

// bend changes a byte, leaves one out, puts one in.
func bend(r *rand.Rand, b []byte) []byte {
	b = slices.Clone(b)
	i := r.IntN(len(b))
	if seldom(r, 2) {
		i = r.IntN(min(40, len(b)))
	}
	switch r.IntN(4) {
	case 0:
		return slices.Delete(b, i, i+1)
	case 1:
		return slices.Insert(b, i, byte(r.IntN(256)))
	case 2:
		b[i] ^= 1 << r.IntN(8)
	default:
		b[i] = pick[byte](r, 0, 1, 2, 4, 5, 128, 255, byte(r.IntN(256)))
	}
	return b
}

// anyBytes are those of some messages; often one is not as it must be.
func anyBytes(t *testing.T, r *rand.Rand) []byte {
	var b []byte
	for range r.IntN(8) {
		one := written(t, anyRight(r))
		if seldom(r, 9) {
			one = pick(r, updateOf(reach), framed(kindRefresh, 0, 1, 0, 1), updateOf(origin, path, attribute(128, 4, 1), reach, unreach))
		}
		if seldom(r, 9) {
			one = bend(r, one)
		}
		if seldom(r, 40) {
			one = pick(r, faults()...).bytes
		}
		b = append(b, one...)
	}
	return b
}

// cutAnyhow are the pieces of a row: none, some, or some hundreds of them, of which some are empty.
func cutAnyhow(r *rand.Rand, b []byte) [][]byte {
	var out [][]byte
	longest := max(len(b)/100, pick(r, 1, 3, 19, 40, 300, 5000))
	for len(b) > 0 {
		n := min(len(b), r.IntN(longest+1))
		out, b = append(out, b[:n]), b[n:]
	}
	return out
}

func TestAsTheModel(t *testing.T) { // P12.1, P12.2: piece by piece
	r := rand.New(rand.NewPCG(1, 2))
	var seen struct{ pieces, broken, waited, none, many int }
	outs := [3]int{}
	for range 2500 {
		s, m := stream.New(), &model{}
		for _, piece := range cutAnyhow(r, anyBytes(t, r)) {
			if len(piece) > 2 && seldom(r, 40) {
				piece = bend(r, piece)
			}
			want, waiting, note, broken := m.feed(piece)
			wantHeard(t, s, piece, want...)
			n, is := s.Broken()
			if s.Waiting() != waiting || is != broken || !equal(n, note) {
				t.Fatalf("%d wait, broken: %v, by %v; want %d, %v, %v", s.Waiting(), is, n, waiting, broken, note)
			}
			seen.pieces++
			for _, h := range want {
				outs[h.Out]++
			}
			switch {
			case broken:
				seen.broken++
			case waiting > 0:
				seen.waited++
			}
			if len(want) > 1 {
				seen.many++
			}
			if len(want) == 0 {
				seen.none++
			}
		}
	}
	for out, n := range outs {
		if n < 100 {
			t.Errorf("of the outcome %d: just %d", out, n)
		}
	}
	if seen.pieces < 10000 || seen.broken < 1000 || seen.waited < 5000 || seen.none < 5000 || seen.many < 200 {
		t.Errorf("just %+v", seen)
	}
}

// allOf is what a stream tells of bytes that come in these pieces.
func allOf(l ...[]byte) (out []api.Heard, note api.Note, broken bool, waiting int) {
	s := stream.New()
	for _, b := range l {
		out = append(out, s.Feed(b)...)
	}
	note, broken = s.Broken()
	return out, note, broken, s.Waiting()
}

// wantAlike wants pieces to say the same, whole or as they are.
func wantAlike(t *testing.T, b []byte, l ...[]byte) {
	t.Helper()
	want, wantNote, wantIs, wantRest := allOf(b)
	got, note, is, rest := allOf(l...)
	if !equal(got, want) || !equal(note, wantNote) || is != wantIs || rest != wantRest {
		t.Fatalf("%v, cut to %d pieces: %+v, %v, %v, %d, want %+v, %v, %v, %d", b, len(l), got, note, is, rest, want, wantNote, wantIs, wantRest)
	}
}

func TestHoweverBytesAreCut(t *testing.T) { // P12.4: the same messages, one behind another, and the same Note: of any bytes, cut anyhow
	r := rand.New(rand.NewPCG(3, 4))
	broken, whole := 0, 0
	for range 2500 {
		b := anyBytes(t, r)
		wantAlike(t, b, cutAnyhow(r, b)...)
		if _, _, is, _ := allOf(b); is {
			broken++
		} else {
			whole++
		}
	}
	if broken < 500 || whole < 500 {
		t.Errorf("just %d were broken, %d not", broken, whole)
	}
}

func TestAtEachPlace(t *testing.T) { // P12.4: cut in two at each place; in three; byte by byte
	for _, f := range faults() {
		b := cat(written(t, someOpen(), someUpdate(), alive, asRefresh(4, 5), asNote(6, 2, 1, 2, 3)), f.bytes, framed(kindAlive))
		for i := range min(len(b), 500) + 1 {
			wantAlike(t, b, b[:i], b[i:])
			wantAlike(t, b, b[:i/2], b[i/2:i], nil, b[i:])
		}
		wantAlike(t, b, cuts(b, 1)...)
	}
}

func TestRightMessages(t *testing.T) { // P12.5: their bytes are just these messages, and nothing waits
	r := rand.New(rand.NewPCG(5, 6))
	for range 1500 {
		var l []api.Message
		for range r.IntN(6) {
			l = append(l, anyRight(r))
		}
		got, note, broken, waiting := allOf(cutAnyhow(r, written(t, l...))...)
		if broken || waiting != 0 || !equal(note, api.Note{}) || len(got) != len(l) {
			t.Fatalf("%d messages of %d, broken: %v, by %v, %d wait", len(got), len(l), broken, note, waiting)
		}
		for i, h := range got {
			if h.Out != fine || !message.Same(h.Message, l[i]) {
				t.Fatalf("%+v, want %+v", h, l[i])
			}
		}
	}
}

func TestBytesOfNobody(t *testing.T) { // W1, P12.4: such as nobody wrote
	r := rand.New(rand.NewPCG(7, 8))
	subs := map[int]int{}
	for range 20000 {
		b := head(pick(r, 19, 21, 23, 29, r.IntN(60), r.IntN(5000)), byte(r.IntN(7)))
		for range r.IntN(60) {
			b = append(b, pick[byte](r, 0, 0, 0, 1, 2, 4, 255, byte(r.IntN(256))))
		}
		if seldom(r, 20) {
			b = b[1:]
		}
		wantAlike(t, b, cutAnyhow(r, b)...)
		_, note, _, _ := allOf(b)
		subs[10*note.Code+note.Sub]++
	}
	for _, note := range []int{0, 11, 12, 13, 20, 21, 31} {
		if subs[note] < 100 {
			t.Errorf("of the Note %d: just %d", note, subs[note])
		}
	}
}
