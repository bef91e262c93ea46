package message_test

import (
	"slices"
	"testing"

	"vinery/api"
	"vinery/message"
	"vinery/update"
)

func TestOtherKinds(t *testing.T) { // P11.3: OutReset, {1 3}, whatever the bytes are
	for _, kind := range otherKinds {
		for _, b := range [][]byte{nil, {}, {0}, {0, 1, 0, multi}, {0, 0, 0, 0}, {6, 2, 1}, openBytes(), count(5000)} {
			wantReset(t, kind, b, 1, 3)
		}
	}
}

func TestAlive(t *testing.T) { // P11.3: OutOk, with bytes and without
	for _, b := range [][]byte{nil, {}, {0}, {255, 1}, openBytes(), count(5000)} {
		wantBody(t, kindAlive, b, alive, api.OutOk)
	}
}

func TestNotes(t *testing.T) { // P11.3: none, one, two, more bytes
	wantReset(t, kindNote, nil, 1, 2)
	wantReset(t, kindNote, []byte{}, 1, 2)
	for n := range 256 {
		wantReset(t, kindNote, []byte{byte(n)}, 1, 2)
		wantBody(t, kindNote, []byte{byte(n), 7}, asNote(n, 7), api.OutOk)
		wantBody(t, kindNote, []byte{7, byte(n)}, asNote(7, n), api.OutOk)
		wantBody(t, kindNote, []byte{7, 8, byte(n)}, asNote(7, 8, byte(n)), api.OutOk)
		wantBody(t, kindNote, cat([]byte{7, 8}, count(n)), asNote(7, 8, count(n)...), api.OutOk)
	}
	for _, n := range []int{1000, mostData - 1, mostData} {
		wantBody(t, kindNote, cat([]byte{6, 2}, count(n)), asNote(6, 2, count(n)...), api.OutOk)
	}
}

func TestLongNotes(t *testing.T) { // P11.3: all the rest is Data, also of a body that no head allows
	for _, n := range []int{mostData + 1, most, 1 << 16} {
		wantBody(t, kindNote, cat([]byte{6, 2}, count(n)), asNote(6, 2, count(n)...), api.OutOk)
	}
}

func TestRefreshes(t *testing.T) { // P11.3: of each family, whatever its third byte is
	for i, f := range families {
		for third := range 256 {
			b := slices.Clone(familyBytes[i])
			b[2] = byte(third)
			wantBody(t, kindRefresh, b, asRefresh(f), api.OutOk)
		}
	}
}

func TestRefreshesThatAreLetGo(t *testing.T) { // P11.3: of another length, of a family that is not known: the Kind alone
	letGo := func(b []byte) {
		t.Helper()
		wantBody(t, kindRefresh, b, api.Message{Kind: kindRefresh}, api.OutDiscard)
	}
	for _, b := range familyBytes {
		for n := range 4 {
			letGo(b[:n])
			letGo(b[n+1:])
		}
		letGo(cat(b, []byte{0}))
		letGo(cat([]byte{0}, b))
		letGo(cat(b, b))
		letGo(cat(b, count(5000)))
	}
	letGo(nil)
	for first := range 256 {
		for second := range 256 {
			if first > 2 && second > 2 && (first+second)%32 > 0 {
				continue
			}
			for _, safi := range []byte{0, 1, 4, multi, 6, 127, private, 129, 255} {
				known := first == 0 && (second == 1 || second == 2) && (safi == multi || safi == private)
				if !known {
					letGo([]byte{byte(first), byte(second), 0, safi})
				}
			}
		}
	}
	for safi := range 256 {
		if safi != multi && safi != private {
			letGo([]byte{0, 1, 0, byte(safi)})
			letGo([]byte{0, 2, 0, byte(safi)})
		}
	}
}

// attribute is one in bytes.
func attribute(flags, kind byte, value ...byte) []byte {
	return cat([]byte{flags, kind, byte(len(value))}, value)
}

// updateBody is one of attributes.
func updateBody(l ...[]byte) []byte {
	attrs := cat(l...)
	return cat([]byte{0, 0, byte(len(attrs) >> 8), byte(len(attrs))}, attrs)
}

// Attributes that tell routes: one that is reached, none that are withdrawn.
var (
	reach   = attribute(128, 14, 0, 1, 5, 4, 10, 0, 0, 1, 0, 1, 12, 0, 0, 0, 0, 0, 0, 0, 0, 10, 0, 0, 1)
	unreach = attribute(128, 15, 0, 2, 128)
)

func TestUpdatesOfEachOutcome(t *testing.T) { // P11.3: update.Parse's answer
	origin, path, med := attribute(64, 1, 0), attribute(64, 2), attribute(128, 4, 0, 0, 0, 9)
	outs := [4]int{}
	for _, b := range [][]byte{
		updateBody(), updateBody(origin, path, med, reach, unreach), updateBody(unreach),
		cat([]byte{0, 1, 9}, updateBody(unreach)[2:], []byte{1, 2, 3}),
		updateBody(origin, path, med, med, reach), updateBody(attribute(128, 15, 0, 3, 5)),
		updateBody(origin, path, attribute(128, 4, 1), reach, unreach), updateBody(reach), updateBody(attribute(64, 1, 9)),
		nil, {0}, {0, 0, 0, 9}, updateBody(attribute(128, 15, 0)), updateBody(unreach, unreach), updateBody(attribute(0, 99)), updateBody(attribute(0, 15, 0, 1, 5)),
	} {
		u, out, note := update.Parse(b)
		outs[out]++
		if out == api.OutReset {
			wantReset(t, kindUpdate, b, 3, note.Sub)
		} else {
			wantBody(t, kindUpdate, b, asUpdate(u), out)
		}
	}
	if outs != [4]int{4, 2, 3, 7} {
		t.Errorf("layer 10's outcomes: %v", outs)
	}
	wantReset(t, kindUpdate, []byte{0, 0, 0, 9}, 3, 1)
	wantReset(t, kindUpdate, updateBody(attribute(0, 99)), 3, 2)
	wantReset(t, kindUpdate, updateBody(attribute(0, 15, 0, 1, 5)), 3, 4)
	wantReset(t, kindUpdate, []byte{0, 0, 0, 3, 128, 15, 0}, 3, 9)
}

func TestTwoUnreach(t *testing.T) { // P11.3, P11.6: the one thing that may be not right in what is read
	m, out, _ := message.Body(kindUpdate, updateBody(reach, unreach))
	if out != api.OutWithdraw || len(m.Update.Unreach) != 2 || message.Right(m) {
		t.Errorf("%+v, %d", m, out)
	}
	m.Update.Unreach = m.Update.Unreach[:1]
	wantRight(t, true, m)
}

func TestAnotherKindsBody(t *testing.T) { // P11.3: it is the Kind that tells how a body is read
	for _, m := range rights() {
		b, _ := message.Bytes(m)
		for kind := kindOpen; kind <= kindRefresh; kind++ {
			got, out, _ := message.Body(kind, b[headSize:])
			if want := map[bool]int{false: kind, true: 0}[out == api.OutReset]; got.Kind != want {
				t.Errorf("Body(%d, %v): %+v, %d", kind, b[headSize:], got, out)
			}
		}
	}
}
