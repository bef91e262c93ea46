package message_test

import (
	"testing"

	"vinery/api"
	"vinery/message"
)

// headOf is a head that tells a length and a Kind.
func headOf(length, kind int) []byte {
	return cat(mark(), []byte{byte(length >> 8), byte(length), byte(kind)})
}

// spans are the lengths that messages of each Kind may have: from the first one to the second one.
var spans = map[int][2]int{
	kindOpen:    {29, most},
	kindUpdate:  {23, most},
	kindNote:    {21, most},
	kindAlive:   {19, 19},
	kindRefresh: {23, 23},
}

func TestHeadEnds(t *testing.T) { // P11.2: fewer than HeadSize bytes, whatever they are
	for _, b := range [][]byte{headOf(19, kindAlive), make([]byte, headSize), headOf(0, 0), headOf(65535, 255)} {
		for n := range headSize {
			k, size, note, e := message.Head(b[:n])
			if k != 0 || size != 0 || !equal(note, api.Note{}) || e != api.ErrEnd {
				t.Errorf("Head(%v): %d, %d, %v, %v, want ErrEnd", b[:n], k, size, note, e)
			}
		}
	}
	if k, size, note, e := message.Head(nil); k != 0 || size != 0 || !equal(note, api.Note{}) || e != api.ErrEnd {
		t.Errorf("Head(nil): %d, %d, %v, %v, want ErrEnd", k, size, note, e)
	}
}

func TestHeadMore(t *testing.T) { // P11.2: just the first bytes are looked at
	for _, more := range [][]byte{nil, {0}, {255}, count(4), count(1 << 16), mark(), headOf(0, 0)} {
		for kind, span := range spans {
			wantHead(t, cat(headOf(span[0], kind), more), kind, span[0]-headSize)
		}
		wantWrong(t, cat(headOf(20, kindAlive), more), 2, 0, 20)
		wantWrong(t, cat(make([]byte, headSize), more), 1)
	}
}

func TestHeadMark(t *testing.T) { // P11.2: each of the sixteen, ahead of all else that is wrong
	for i := range 16 {
		for v := range 255 {
			for _, b := range [][]byte{headOf(19, kindAlive), headOf(18, 0), headOf(19, 9), headOf(4097, kindOpen)} {
				b[i] = byte(v)
				wantWrong(t, b, 1)
			}
		}
	}
	wantWrong(t, make([]byte, headSize), 1)
}

func TestHeads(t *testing.T) { // P11.2: of all lengths and Kinds: the first thing that is wrong, or none
	for kind := range 256 {
		span, there := spans[kind]
		for length := range 1 << 16 {
			if kind > 6 && kind < 255 && length > 30 && length < 65530 && length%509 != 0 && length != most && length != most+1 {
				continue
			}
			b := headOf(length, kind)
			switch {
			case length < 19, length > 4096:
				wantWrong(t, b, 2, b[16], b[17])
			case !there:
				wantWrong(t, b, 3, byte(kind))
			case length < span[0], length > span[1]:
				wantWrong(t, b, 2, b[16], b[17])
			default:
				wantHead(t, b, kind, length-19)
			}
			if t.Failed() {
				t.FailNow()
			}
		}
	}
}

func TestHeadsSpelledOut(t *testing.T) { // P11.2: the least and the greatest length of each Kind, and those beside them
	wantWrong(t, headOf(0, kindAlive), 2, 0, 0)
	wantWrong(t, headOf(18, kindAlive), 2, 0, 18)
	wantHead(t, headOf(19, kindAlive), 4, 0)
	wantWrong(t, headOf(20, kindAlive), 2, 0, 20)
	wantWrong(t, headOf(4096, kindAlive), 2, 16, 0)
	wantWrong(t, headOf(28, kindOpen), 2, 0, 28)
	wantHead(t, headOf(29, kindOpen), 1, 10)
	wantHead(t, headOf(4096, kindOpen), 1, 4077)
	wantWrong(t, headOf(4097, kindOpen), 2, 16, 1)
	wantWrong(t, headOf(22, kindUpdate), 2, 0, 22)
	wantHead(t, headOf(23, kindUpdate), 2, 4)
	wantHead(t, headOf(4096, kindUpdate), 2, 4077)
	wantWrong(t, headOf(4097, kindUpdate), 2, 16, 1)
	wantWrong(t, headOf(20, kindNote), 2, 0, 20)
	wantHead(t, headOf(21, kindNote), 3, 2)
	wantHead(t, headOf(4096, kindNote), 3, 4077)
	wantWrong(t, headOf(4097, kindNote), 2, 16, 1)
	wantWrong(t, headOf(22, kindRefresh), 2, 0, 22)
	wantHead(t, headOf(23, kindRefresh), 5, 4)
	wantWrong(t, headOf(24, kindRefresh), 2, 0, 24)
	wantWrong(t, headOf(19, 0), 3, 0)
	wantWrong(t, headOf(19, 6), 3, 6)
	wantWrong(t, headOf(4096, 255), 3, 255)
	wantWrong(t, headOf(18, 255), 2, 0, 18)
	wantWrong(t, headOf(65535, 0), 2, 255, 255)
}
