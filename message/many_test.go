package message_test

import (
	"bytes"
	"math/rand/v2"
	"slices"
	"testing"

	"vinery/api"
	"vinery/message"
	"vinery/update"
)

// pick is one of some.
func pick[T any](r *rand.Rand, l ...T) T { return l[r.IntN(len(l))] }

// seldom is true once in so many times.
func seldom(r *rand.Rand, often int) bool { return r.IntN(often) == 0 }

// anyOpen is one that is right, or nearly so.
func anyOpen(r *rand.Rand) api.Open {
	o := api.Open{AS: pick(r, 1, 7, 23456, 65000, 65535, 65536, 1+r.IntN(1<<32-1)), Hold: pick(r, 0, 3, 90, 3+r.IntN(1<<16-3)), Id: v4(byte(r.IntN(256)), 1, 2, 3), Refresh: seldom(r, 2)}
	for _, i := range r.Perm(4)[:r.IntN(5)] {
		o.Families = append(o.Families, families[i])
	}
	if !seldom(r, 8) {
		return o
	}
	switch r.IntN(4) {
	case 0:
		o.AS = pick(r, 0, -1, 1<<32, o.AS+1<<33)
	case 1:
		o.Hold = pick(r, 1, 2, -1, 65536, 1<<32)
	case 2:
		o.Id = pick(r, api.Addr{}, api.Addr{Size: 4}, six1, api.Addr{Size: 4, B: [16]byte{1, 7: 1}})
	default:
		o.Families = append(o.Families, pick(r, append(oddFamilies, families...)...))
	}
	return o
}

// anyUpdate is one that is right, or nearly so, long or short.
func anyUpdate(r *rand.Rand) api.Update {
	u := pick(r, fullUpdate(), fullUpdate(), update.Empty(), routes(r.IntN(900)))
	if seldom(r, 2) {
		u.Unreach = append([]api.Table{}, pick(r, nil, routes(r.IntN(9)).Unreach, fullUpdate().Unreach)...)
	}
	if seldom(r, 9) {
		u.Attrs.Pref = pick(r, -1, 0, 100)
	}
	return u
}

// anyNote is one that is right, or nearly so.
func anyNote(r *rand.Rand) api.Note {
	n := api.Note{Code: r.IntN(256), Sub: r.IntN(256), Data: count(pick(r, 0, 0, 1, 2, r.IntN(300), mostData-r.IntN(3)))}
	if seldom(r, 8) {
		n.Code, n.Sub = pick(r, -1, 0, 256), pick(r, 0, 256, -1)
	}
	if seldom(r, 12) {
		n.Data = count(mostData + r.IntN(3))
	}
	return n
}

// anyMessage is one that is right, or nearly so.
func anyMessage(r *rand.Rand) api.Message {
	m := api.Message{Kind: 1 + r.IntN(5), Update: pick(r, api.Update{}, update.Empty())}
	tell := func(kind int) {
		switch kind {
		case kindOpen:
			m.Open = anyOpen(r)
		case kindUpdate:
			m.Update = anyUpdate(r)
		case kindNote:
			m.Note = anyNote(r)
		case kindRefresh:
			m.Family = pick(r, append(families, pick(r, oddFamilies...))...)
		}
	}
	tell(m.Kind)
	if seldom(r, 12) {
		tell(1 + r.IntN(5))
	}
	if seldom(r, 20) {
		m.Kind = pick(r, append(otherKinds, kindOpen, kindUpdate, kindNote, kindAlive, kindRefresh)...)
	}
	return m
}

func TestMessagesAsTheModel(t *testing.T) { // P11.1, P11.5: of any messages: what is written is read, head and body
	r := rand.New(rand.NewPCG(1, 2))
	errnos, kinds := map[api.Errno]int{}, map[int]int{}
	for range 20000 {
		m := anyMessage(r)
		if !modelRight(m) {
			wantOdd(t, m)
			errnos[api.ErrArg]++
		} else if want, e := modelBytes(m); e != api.OK {
			b, got := message.Bytes(m)
			if got != e || len(b) > 0 || !message.Right(m) {
				t.Errorf("Bytes: %v, want %v", got, e)
			}
			errnos[e]++
		} else {
			wantWritten(t, m, want)
			b, _ := message.Bytes(m)
			if again, _, _ := message.Body(m.Kind, b[headSize:]); !message.Same(m, again) || !message.Same(again, m) {
				t.Errorf("Body(%d, %v): %+v, want %+v", m.Kind, b[headSize:], again, m)
			}
			errnos[e]++
			kinds[m.Kind]++
		}
		if t.Failed() {
			t.FailNow()
		}
	}
	for kind := kindOpen; kind <= kindRefresh; kind++ {
		if kinds[kind] < 1500 {
			t.Errorf("of the kind %d: just %d", kind, kinds[kind])
		}
	}
	if errnos[api.ErrArg] < 3000 || errnos[api.ErrLong] < 200 {
		t.Errorf("just %v", errnos)
	}
}

// bend changes a byte, leaves some out, puts one in.
func bend(r *rand.Rand, b []byte) []byte {
	if len(b) == 0 {
		return []byte{byte(r.IntN(256))}
	}
	i := r.IntN(len(b))
	if seldom(r, 2) {
		i = r.IntN(min(30, len(b)))
	}
	b = slices.Clone(b)
	switch r.IntN(5) {
	case 0:
		return slices.Delete(b, i, i+1)
	case 1:
		return slices.Insert(b, i, byte(r.IntN(256)))
	case 2:
		return b[:i]
	case 3:
		b[i] ^= 1 << r.IntN(8)
	default:
		b[i] = pick[byte](r, 0, 1, 2, 4, 5, 65, 128, 255, byte(r.IntN(256)))
	}
	return b
}

// anyOpenBytes are those of an open, often not as they must be.
func anyOpenBytes(r *rand.Rand) []byte {
	var params [][]byte
	for range pick(r, 0, 1, 1, 1, 2, 3) {
		var l [][]byte
		for range r.IntN(5) {
			l = append(l, pick(r, capFamily(pick(r, families...)), capFamily(pick(r, families...)), capability(1, 0, 1, 1, 1), capability(2), capability(2, 1), capAS(r.IntN(1<<32)), capAS(pick(r, 0, 7)), capability(byte(r.IntN(256)), count(r.IntN(5))...), capability(1, 0, 1, 0)))
		}
		p := param(l...)
		if seldom(r, 9) {
			p = bend(r, p)
		}
		params = append(params, p)
	}
	b := openBytes(params...)
	if seldom(r, 9) {
		b = with(b, 1, 0, pick[byte](r, 0, 1))
	}
	if seldom(r, 9) {
		b = with(b, 3, 0, byte(r.IntN(5)))
	}
	if seldom(r, 9) {
		b = with(b, 5, 0, 0, 0, pick[byte](r, 0, 1))
	}
	return b
}

// anyUpdateBody is one of attributes, such as come to each outcome.
func anyUpdateBody(r *rand.Rand) []byte {
	l := [][]byte{attribute(64, 1, 0), attribute(64, 2)}
	if seldom(r, 6) {
		l = l[:1]
	}
	for range r.IntN(4) {
		l = append(l, pick(r, reach, unreach, attribute(128, 15, 0, 1, 5), attribute(128, 4, 0, 0, 0, 9), attribute(128, 4, 9), attribute(pick[byte](r, 0, 192), 15, 0, 1, 5), attribute(64, 99), attribute(128, 15, 0, 3, 5), attribute(128, 15, 0, 1), attribute(128, 15, 0, 1, 5, 9)))
	}
	return updateBody(l...)
}

// anyBody is one of a Kind that was written, or such a one bent.
func anyBody(r *rand.Rand, kind int) []byte {
	if kind == kindOpen && !seldom(r, 4) {
		return anyOpenBytes(r)
	}
	if kind == kindUpdate && !seldom(r, 4) {
		return anyUpdateBody(r)
	}
	for range 3 {
		m := anyMessage(r)
		if b, e := message.Bytes(m); e == api.OK && len(b) < 400 && m.Kind == kind {
			return b[headSize:]
		}
	}
	return bend(r, pick(r, familyBytes...))
}

// wantBodyAsModel wants bytes to be read as the model does, and what is read to be right, and tells the outcome and the Note's Sub.
func wantBodyAsModel(t *testing.T, kind int, b []byte) (int, api.Note) {
	t.Helper()
	want, out, note := modelBody(kind, b)
	if out == api.OutReset {
		wantReset(t, kind, b, note.Code, note.Sub, note.Data...)
	} else {
		wantBody(t, kind, b, want, out)
	}
	wantRightRead(t, kind, b)
	if t.Failed() {
		t.FailNow()
	}
	return out, note
}

// wantRightRead wants what is read to be right, an Update but for two Unreach; or the Kind alone, or nothing.
func wantRightRead(t *testing.T, kind int, b []byte) {
	t.Helper()
	m, out, note := message.Body(kind, b)
	if (out == api.OutReset) != (note.Code > 0) || out < api.OutOk || out > api.OutReset {
		t.Errorf("Body(%d, %v): %d, %v", kind, b, out, note)
	}
	alone := out == api.OutReset && equal(m, api.Message{}) || out == api.OutDiscard && equal(m, api.Message{Kind: kindRefresh})
	for i := range max(1, len(m.Update.Unreach)) {
		one := m
		one.Update.Unreach = m.Update.Unreach[min(i, len(m.Update.Unreach)):][:min(1, len(m.Update.Unreach))]
		if !alone && (m.Kind != kind || len(m.Update.Unreach) > 2 || !message.Right(one)) {
			t.Errorf("Body(%d, %v): %+v, %d, which is not right", kind, b, m, out)
		}
	}
}

func TestBodiesAsTheModel(t *testing.T) { // P11.3, P11.6: of bytes of all kinds
	r := rand.New(rand.NewPCG(3, 4))
	outs, subs, reads := [4]int{}, map[[2]int]int{}, map[int]int{}
	for range 60000 {
		kind := pick(r, kindOpen, kindOpen, kindUpdate, kindNote, kindAlive, kindRefresh, pick(r, otherKinds...))
		b := anyBody(r, kind)
		for range pick(r, 0, 0, 0, 1, 1, 2, 3) {
			b = bend(r, b)
		}
		if kind == kindOpen && len(b) > 10 && !seldom(r, 4) {
			b = with(b, 9, byte(len(b)-10))
		}
		out, note := wantBodyAsModel(t, kind, b)
		outs[out]++
		subs[[2]int{note.Code, note.Sub}]++
		if out == api.OutOk {
			reads[kind]++
		}
	}
	for kind := kindOpen; kind <= kindRefresh; kind++ {
		if reads[kind] < 1000 {
			t.Errorf("of the kind %d: just %d were read", kind, reads[kind])
		}
	}
	for _, note := range [][2]int{{1, 2}, {1, 3}, {2, subWhole}, {2, subVersion}, {2, subParam}, {2, subAS}, {2, subHold}, {2, subId}, {3, 1}, {3, 4}, {3, 9}} {
		if subs[note] < 100 {
			t.Errorf("%v: just %d", note, subs[note])
		}
	}
	if outs[api.OutDiscard] < 1000 || outs[api.OutWithdraw] < 50 {
		t.Errorf("just %v", outs)
	}
}

func TestHeadsAsTheModel(t *testing.T) { // P11.2: of written messages with a byte changed, left out or put in, and of others
	r := rand.New(rand.NewPCG(5, 6))
	subs := map[int]int{}
	for range 40000 {
		b := headOf(pick(r, 19, 23, r.IntN(40), 4090+r.IntN(12), r.IntN(1<<16)), r.IntN(8))
		if m, e := message.Bytes(anyMessage(r)); e == api.OK && seldom(r, 2) {
			b = m
		}
		for range pick(r, 0, 0, 0, 1, 1, 2) {
			b = bend(r, b)
		}
		if len(b) < headSize {
			if _, _, _, e := message.Head(b); e != api.ErrEnd {
				t.Fatalf("Head(%v): %v, want ErrEnd", b, e)
			}
			subs[-1]++
			continue
		}
		kind, size, note := modelHead(b)
		if note.Code > 0 {
			wantWrong(t, b, note.Sub, note.Data...)
		} else {
			wantHead(t, b, kind, size)
		}
		if t.Failed() {
			t.FailNow()
		}
		subs[note.Sub]++
	}
	for sub := -1; sub <= 3; sub++ {
		if subs[sub] < 1000 {
			t.Errorf("%d: just %d", sub, subs[sub])
		}
	}
}

func TestAnyBytes(t *testing.T) { // P11.3, P11.6, W1: such as nobody wrote
	r := rand.New(rand.NewPCG(7, 8))
	for range 30000 {
		b := make([]byte, r.IntN(40))
		for i := range b {
			b[i] = pick[byte](r, 0, 0, 0, 1, 2, 2, 4, 4, 5, 65, 128, 255, byte(r.IntN(256)))
		}
		if len(b) >= 10 && !seldom(r, 3) {
			b[0], b[9] = 4, byte(len(b)-10)
		}
		for kind := range 7 {
			wantBodyAsModel(t, kind, b)
		}
		message.Head(b)
	}
}

func TestWrittenAgain(t *testing.T) { // P11.5, P11.6: what is read is written, and read as the same
	r := rand.New(rand.NewPCG(9, 10))
	again := map[int]int{}
	for range 30000 {
		kind := 1 + r.IntN(5)
		b := anyBody(r, kind)
		if seldom(r, 3) {
			b = bend(r, b)
		}
		m, out, _ := message.Body(kind, b)
		if out == api.OutReset || !message.Right(m) {
			continue
		}
		c, e := message.Bytes(m)
		if e != api.OK {
			t.Fatalf("Bytes(%+v): %v", m, e)
		}
		wantHead(t, c, kind, len(c)-headSize)
		wantBody(t, kind, c[headSize:], m, api.OutOk)
		if d, _ := message.Bytes(m); !bytes.Equal(c, d) {
			t.Fatalf("Bytes(%+v): %v, then %v", m, c, d)
		}
		again[kind]++
	}
	for kind := kindOpen; kind <= kindRefresh; kind++ {
		if again[kind] < 1500 {
			t.Errorf("of the kind %d: just %d were written again", kind, again[kind])
		}
	}
}
