package update_test

import (
	"bytes"
	"math/rand/v2"
	"slices"
	"testing"

	"vinery/api"
	"vinery/update"
)

// pick is one of some.
func pick[T any](r *rand.Rand, l ...T) T { return l[r.IntN(len(l))] }

// seldom is true once in so many times.
func seldom(r *rand.Rand, often int) bool { return r.IntN(often) == 0 }

// someOf are up to so many of some.
func someOf[T any](r *rand.Rand, most int, l ...T) []T {
	var out []T
	for range r.IntN(most + 1) {
		out = append(out, pick(r, l...))
	}
	return out
}

// someTable is one that is right, or nearly so: with many routes or few.
func someTable(r *rand.Rand, next api.Addr) api.Table {
	f := pick(r, families()...).table
	f.Next = next
	most := pick(r, 1, 3, 3, 3, 9, 200)
	if f.Safi == multi {
		f.M = someOf(r, most, f.M...)
	} else {
		f.U = someOf(r, most, f.U...)
	}
	for i := range f.U {
		f.U[i].Label = pick(r, 0, 16, r.IntN(1<<20))
	}
	if seldom(r, 20) {
		marTable(r, &f)
	}
	return f
}

// marTable changes one thing, mostly so that a table is not right.
func marTable(r *rand.Rand, t *api.Table) {
	switch r.IntN(6) {
	case 0:
		t.Size = pick(r, 4, 16, 0, 20, -4)
	case 1:
		t.Safi = pick(r, multi, private, 0, 133)
	case 2:
		t.Next = pick(r, append(oddAddrs, none, four1, six1)...)
	case 3:
		t.M = append(t.M, pick(r, append(oddMroutes(), active6, active4, leaf4)...))
	case 4:
		t.U = append(t.U, pick(r, append(oddUroutes(), some4, some6)...))
	default:
		t.M, t.U = nil, nil
	}
}

// someAttrs are right, or nearly so.
func someAttrs(r *rand.Rand) api.Attrs {
	a := pick(r, some(), nothing())
	a.Origin, a.Med, a.Pref = r.IntN(3), pick(r, -1, 0, r.IntN(1<<32)), pick(r, -1, 100)
	a.Exts = slices.Repeat([]api.Ext{{1, 2, 3}}, r.IntN(65))
	if seldom(r, 20) {
		a.Path = append(a.Path, api.Segment{AS: slices.Repeat([]int{r.IntN(1 << 32)}, 255)}, api.Segment{AS: slices.Repeat([]int{7}, pick(r, 0, 255, 256))})
	}
	if seldom(r, 20) {
		a.Med = pick(r, -2, 1<<32, 7)
	}
	return a
}

// someUpdate is one that is right, or nearly so.
func someUpdate(r *rand.Rand) api.Update {
	u := api.Update{Attrs: nothing()}
	for range pick(r, 0, 1, 1, 1, 1, 1, 1, 1, 1, 1, 1, 1, 2) {
		u.Attrs = someAttrs(r)
		u.Reach = append(u.Reach, someTable(r, pick(r, four1, six1)))
	}
	for range pick(r, 0, 1, 1, 1, 1, 1, 1, 1, 1, 1, 1, 1, 2) {
		u.Unreach = append(u.Unreach, someTable(r, none))
	}
	if seldom(r, 30) {
		u.Attrs = someAttrs(r)
	}
	return u
}

func TestUpdatesAsTheModel(t *testing.T) { // P10.1, P10.4: of any updates: what is written is read, with OutOk
	r := rand.New(rand.NewPCG(1, 2))
	errnos := map[api.Errno]int{}
	for range 10000 {
		u := someUpdate(r)
		if !modelRight(u) {
			wantOdd(t, u)
			errnos[api.ErrArg]++
		} else if want, e := modelBytes(u); e != api.OK {
			wantLong(t, u)
			errnos[e]++
		} else {
			wantBody(t, u, want)
			errnos[e]++
			if v, _, _ := update.Parse(want); !update.Same(u, v) || !update.Same(v, u) {
				t.Errorf("Parse(%v): %+v, want %+v", want, v, u)
			}
		}
		if t.Failed() {
			t.FailNow()
		}
	}
	if errnos[api.OK] < 4000 || errnos[api.ErrArg] < 1500 || errnos[api.ErrLong] < 200 {
		t.Errorf("just %v", errnos)
	}
}

// someBody is one that was written, or attributes one behind another, often not as they must be.
func someBody(r *rand.Rand) []byte {
	if seldom(r, 3) {
		if b, e := update.Bytes(someUpdate(r)); e == api.OK && len(b) < 400 {
			return b
		}
	}
	l := [][]byte{raw(transitive, 1, 2), raw(transitive, 2, 2, 1, 0, 0, 0, 9)}
	if seldom(r, 8) {
		l = l[r.IntN(2):][:1]
	}
	for _, kind := range [][]byte{{reach}, {unreach}, {reach, unreach}, {reach, unreach}, {reach, unreach}, {reach, reach}, {unreach, reach, unreach}, nil}[r.IntN(8)] {
		l = append(l, raw(pick[byte](r, 128, 128, 128, 128, 128, 128, 144, 144, 192, 0), kind, someValue(r, kind == reach)...))
	}
	if seldom(r, 2) {
		l = append(l, pick(r, raw(128, 4, 0, 0, 0, 9), raw(128, 4, 9), raw(0, 5, 0, 0, 0, 1), raw(192, 77, 1), raw(128, 78), raw(64, 79, 1, 2), raw(192, 16, 1, 2, 3, 4, 5, 6, 7, 8), raw(64, 1, 0), raw(64, 2)))
	}
	r.Shuffle(len(l), func(i, j int) { l[i], l[j] = l[j], l[i] })
	return body(cat(l...))
}

// someValue is a table's, mostly.
func someValue(r *rand.Rand, isReach bool) []byte {
	f := pick(r, families()...)
	f.row = f.row[:pick(r, 0, len(f.row), len(f.row), len(f.row))]
	b := withdrawn(f)
	if isReach {
		b = reached(f, pick(r, four1, six1))
	}
	if seldom(r, 8) {
		b[1] = byte(r.IntN(4))
	}
	if seldom(r, 4) {
		b = bend(r, b)
	}
	return b
}

// bend changes a byte, leaves some out, puts one in.
func bend(r *rand.Rand, b []byte) []byte {
	if len(b) == 0 {
		return b
	}
	i := r.IntN(len(b))
	if seldom(r, 3) {
		i = r.IntN(min(12, len(b)))
	}
	b = slices.Clone(b)
	switch r.IntN(5) {
	case 0:
		return slices.Delete(b, i, i+1)
	case 1:
		return slices.Insert(b, i, byte(r.IntN(256)))
	case 2:
		return b[:i]
	case 3:
		b[i] ^= 1 << r.IntN(8)
	default:
		b[i] = pick[byte](r, 0, 1, 2, 4, 5, 14, 15, 64, 128, byte(r.IntN(256)))
	}
	return b
}

// recount makes a body's count of attributes the one of those that are there.
func recount(b []byte) []byte {
	if len(b) < 4 || number(b) != 0 {
		return b
	}
	return body(b[4:])
}

// wantAsModel wants bytes to be read as the model does, and tells what came of them.
func wantAsModel(t *testing.T, b []byte) (out, sub int) {
	t.Helper()
	want, out, sub := modelParse(b)
	if out == 3 {
		wantReset(t, b, sub)
	} else {
		wantParsed(t, b, want, out)
	}
	wantRightParts(t, b)
	if t.Failed() {
		t.FailNow()
	}
	return out, sub
}

func TestBodiesAsTheModel(t *testing.T) { // P10.2, P10.5: of bytes of all kinds
	r := rand.New(rand.NewPCG(3, 4))
	outs, subs := [4]int{}, map[int]int{}
	for range 40000 {
		b := someBody(r)
		for range pick(r, 0, 0, 0, 1, 1, 2, 3) {
			b = bend(r, b)
		}
		if !seldom(r, 4) {
			b = recount(b)
		}
		out, sub := wantAsModel(t, b)
		outs[out]++
		subs[sub]++
	}
	if slices.Min(outs[:]) < 1000 || subs[1] < 1500 || subs[2] < 1000 || subs[4] < 1500 || subs[9] < 1500 {
		t.Errorf("just %v, %v", outs, subs)
	}
}

// wantRightParts wants what is read to be right, but that there may be two Unreach; of OutWithdraw there is no Reach.
func wantRightParts(t *testing.T, b []byte) {
	t.Helper()
	u, out, note := update.Parse(b)
	if out != api.OutWithdraw && len(u.Unreach) > 1 || len(u.Unreach) > 2 || out == api.OutWithdraw && len(u.Reach) > 0 {
		t.Errorf("Parse(%v): %+v, %d", b, u, out)
	}
	if (note.Code == 3) != (out == api.OutReset) || (note.Sub > 0) != (out == api.OutReset) || len(note.Data) > 0 {
		t.Errorf("Parse(%v): %d, %v", b, out, note)
	}
	for i := range max(1, len(u.Unreach)) {
		one := u
		one.Unreach = u.Unreach[min(i, len(u.Unreach)):][:min(1, len(u.Unreach))]
		if !update.Right(one) {
			t.Errorf("Parse(%v): %+v, %d, which is not right", b, u, out)
		}
	}
}

func TestAnyBytes(t *testing.T) { // P10.5, W1: such as nobody wrote
	r := rand.New(rand.NewPCG(5, 6))
	for range 20000 {
		b := make([]byte, r.IntN(40))
		for i := range b {
			b[i] = pick[byte](r, 0, 0, 0, 1, 2, 3, 4, 5, 14, 15, 64, 128, byte(r.IntN(256)))
		}
		if len(b) > 4 && !seldom(r, 4) {
			copy(b, []byte{0, 0, 0, byte(len(b) - 4)})
		}
		wantAsModel(t, b)
	}
}

func TestWrittenAgain(t *testing.T) { // P10.4, P10.5: what is read with a Reach or none, and one Unreach, is written, and read as the same
	r := rand.New(rand.NewPCG(7, 8))
	again := 0
	for range 20000 {
		b := someBody(r)
		if seldom(r, 3) {
			b = recount(bend(r, b))
		}
		u, out, _ := update.Parse(b)
		if out == api.OutReset || len(u.Unreach) > 1 {
			continue
		}
		c, e := update.Bytes(u)
		if e != api.OK {
			t.Fatalf("Bytes(%+v): %v", u, e)
		}
		wantParsed(t, c, u, api.OutOk)
		if d, _ := update.Bytes(u); !bytes.Equal(c, d) {
			t.Fatalf("Bytes(%+v): %v, then %v", u, c, d)
		}
		again++
	}
	if again < 5000 {
		t.Errorf("just %d were written again", again)
	}
}
