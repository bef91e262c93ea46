package message_test

import (
	"bytes"
	"slices"
	"testing"

	"vinery/api"
	"vinery/message"
	"vinery/update"
)

func TestExamples(t *testing.T) { // P11.1, P11.5: each line of the chapter's
	for _, c := range []struct {
		m      api.Message
		behind []byte
	}{
		{alive, []byte{0, 19, 4}},
		{asOpen(someOpen()), []byte{0, 43, 1, 4, 253, 232, 0, 90, 10, 0, 0, 1, 14, 2, 12, 1, 4, 0, 1, 0, 5, 65, 4, 0, 0, 253, 232}},
		{asNote(6, 2), []byte{0, 21, 3, 6, 2}},
	} {
		wantWritten(t, c.m, c.behind[3:])
		if b, e := message.Bytes(c.m); e != api.OK || !bytes.Equal(b, cat(mark(), c.behind)) {
			t.Errorf("Bytes(%+v): %v, %v", c.m, b, e)
		}
	}
}

func TestOpenBytes(t *testing.T) { // P11.1, P11.5: number by number
	wantWritten(t, asOpen(fullOpen()), []byte{
		4, 91, 160, 1, 2, 192, 0, 2, 255, 34, 2, 32,
		1, 4, 0, 1, 0, 5, 1, 4, 0, 2, 0, 5, 1, 4, 0, 1, 0, 128, 1, 4, 0, 2, 0, 128,
		2, 0,
		65, 4, 255, 255, 255, 254,
	})
	wantWritten(t, asOpen(api.Open{AS: 1, Id: v4(0, 0, 0, 1)}), []byte{4, 0, 1, 0, 0, 0, 0, 0, 1, 8, 2, 6, 65, 4, 0, 0, 0, 1})
	wantWritten(t, asOpen(api.Open{AS: 0x0304, Hold: 65535, Id: v4(1, 2, 3, 4), Refresh: true, Families: []api.Family{}}), []byte{4, 3, 4, 255, 255, 1, 2, 3, 4, 10, 2, 8, 2, 0, 65, 4, 0, 0, 3, 4})
	wantWritten(t, asOpen(api.Open{AS: 7, Hold: 3, Id: v4(255, 255, 255, 255), Families: []api.Family{{Size: 16, Safi: private}, {Size: 4, Safi: multi}}}), []byte{4, 0, 7, 0, 3, 255, 255, 255, 255, 20, 2, 18, 1, 4, 0, 2, 0, 128, 1, 4, 0, 1, 0, 5, 65, 4, 0, 0, 0, 7})
}

func TestOpenAS(t *testing.T) { // P11.1, P11.5: in two bytes 23456, if it is above 65535; in four as it is
	for _, c := range []struct {
		as    int
		short []byte
		long  []byte
	}{
		{1, []byte{0, 1}, []byte{0, 0, 0, 1}},
		{255, []byte{0, 255}, []byte{0, 0, 0, 255}},
		{256, []byte{1, 0}, []byte{0, 0, 1, 0}},
		{23456, []byte{91, 160}, []byte{0, 0, 91, 160}},
		{65534, []byte{255, 254}, []byte{0, 0, 255, 254}},
		{65535, []byte{255, 255}, []byte{0, 0, 255, 255}},
		{65536, []byte{91, 160}, []byte{0, 1, 0, 0}},
		{65537, []byte{91, 160}, []byte{0, 1, 0, 1}},
		{1<<32 - 1, []byte{91, 160}, []byte{255, 255, 255, 255}},
	} {
		wantWritten(t, asOpen(api.Open{AS: c.as, Id: four1}), cat([]byte{4}, c.short, []byte{0, 0, 10, 0, 0, 1, 8, 2, 6, 65, 4}, c.long))
	}
}

func TestOpenFamilies(t *testing.T) { // P11.1, P11.5: each choice of them, in the order in which they stand
	for choice := range 1 << len(families) {
		for _, refresh := range []bool{false, true} {
			o := api.Open{AS: 7, Id: four1, Refresh: refresh}
			var back []byte
			for i, f := range families {
				if choice>>i&1 > 0 {
					o.Families = slices.Insert(o.Families, 0, f)
					back = cat([]byte{1, 4}, familyBytes[i], back)
				}
			}
			if refresh {
				back = append(back, 2, 0)
			}
			back = append(back, 65, 4, 0, 0, 0, 7)
			wantWritten(t, asOpen(o), cat([]byte{4, 0, 7, 0, 0, 10, 0, 0, 1, byte(len(back) + 2), 2, byte(len(back))}, back))
		}
	}
}

func TestRefreshBytes(t *testing.T) { // P11.1, P11.5: each of the four
	for i, f := range families {
		wantWritten(t, asRefresh(f), familyBytes[i])
	}
}

func TestNoteBytes(t *testing.T) { // P11.1, P11.5: Code, Sub, Data, so many as there may be
	for _, n := range []int{0, 1, 2, 3, 127, 128, 254, 255} {
		wantWritten(t, asNote(n, 7), []byte{byte(n), 7})
		wantWritten(t, asNote(7, n), []byte{7, byte(n)})
	}
	for _, n := range []int{0, 1, 2, 233, 234, 235, 236, 255, 256, 1000, mostData - 1, mostData} {
		wantWritten(t, asNote(6, 2, count(n)...), cat([]byte{6, 2}, count(n)))
	}
	if b, e := message.Bytes(asNote(6, 2, count(mostData)...)); e != api.OK || len(b) != most || b[16] != 16 || b[17] != 0 {
		t.Errorf("the longest note: %d bytes, %v, %v", len(b), b[:headSize], e)
	}
}

func TestUpdateBytes(t *testing.T) { // P11.1, P11.5: layer 10's, behind the head
	wantWritten(t, asUpdate(update.Empty()), []byte{0, 0, 0, 0})
	b, e := update.Bytes(fullUpdate())
	if e != api.OK || len(b) < 80 {
		t.Fatalf("layer 10: %v, %v", b, e)
	}
	wantWritten(t, asUpdate(fullUpdate()), b)
}

// routes is an update that withdraws so many routes of a distinguisher and no bits: 12 bytes each.
func routes(n int, more ...api.Uroute) api.Update {
	u := update.Empty()
	l := slices.Repeat([]api.Uroute{{Prefix: api.Prefix{Addr: api.Addr{Size: 4}}}}, n)
	u.Unreach = []api.Table{{Size: 4, Safi: private, U: append(l, more...)}}
	return u
}

// longer is such a route, of so many bytes more.
func longer(n int) api.Uroute {
	return api.Uroute{Prefix: api.Prefix{Addr: api.Addr{Size: 4}, Bits: 8 * n}}
}

func TestUpdateErrors(t *testing.T) { // P11.1, P11.5: update.Bytes' error; behind ErrArg
	const ahead = 4 + 4 + 3
	full := (most - headSize - ahead) / 12
	left := most - headSize - ahead - 12*full
	last := slices.Repeat([]api.Uroute{longer(4)}, left/4)
	if left%4 > 0 {
		last = append(last, longer(left%4))
	}
	u := routes(full-len(last), last...)
	if b, e := message.Bytes(asUpdate(u)); e != api.OK || len(b) != most {
		t.Errorf("the longest update: %d bytes, %v", len(b), e)
	} else {
		wantWritten(t, asUpdate(u), b[headSize:])
	}
	for _, u := range []api.Update{routes(full+1, last...), routes(full-len(last)+1, last...), routes(1 << 14)} {
		if b, e := message.Bytes(asUpdate(u)); e != api.ErrLong || len(b) != 0 || !message.Right(asUpdate(u)) {
			t.Errorf("%d routes: %d bytes, %v, right: %v, want ErrLong", len(u.Unreach[0].U), len(b), e, message.Right(asUpdate(u)))
		}
		m := asUpdate(u)
		m.Note.Code = 1
		wantOdd(t, m)
		u.Reach = make([]api.Table, 1)
		wantOdd(t, asUpdate(u))
	}
}
