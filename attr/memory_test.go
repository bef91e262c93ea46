package attr_test

import (
	"bytes"
	"fmt"
	"slices"
	"testing"

	"vinery/api"
	"vinery/attr"
)

// roomy is a row with spare room, which is not zero.
func roomy[T any](row []T, fill T) []T {
	return append(slices.Clone(row), fill, fill, fill, fill)[:len(row)]
}

// whole is a row with its spare room.
func whole[T any](row []T) []T { return row[:cap(row)] }

// roomyRaws are attributes as they came, with spare room in all depths.
func roomyRaws(l []api.Raw) []api.Raw {
	l = roomy(l, raw(7, 7, 7))
	for i := range l {
		l[i].Value = roomy(l[i].Value, 7)
	}
	return l
}

// wholeRaws are those, with their spare room, as a text.
func wholeRaws(l []api.Raw) string {
	l = slices.Clone(whole(l))
	for i := range l {
		l[i].Value = whole(l[i].Value)
	}
	return fmt.Sprint(l)
}

// spoilRaws writes all over them, in all depths.
func spoilRaws(l []api.Raw) {
	for i, w := range whole(l) {
		spoil(w.Value, 99)
		whole(l)[i] = raw(-7, -7)
	}
}

// spoil writes all over a row and its spare room.
func spoil[T any](row []T, n T) {
	for i := range whole(row) {
		whole(row)[i] = n
	}
}

// roomyAttrs are attributes with spare room in all depths.
func roomyAttrs(a api.Attrs) api.Attrs {
	a.Path, a.Tunnels = roomy(a.Path, api.Segment{AS: []int{7}}), roomy(a.Tunnels, api.Tunnel{Kind: 7})
	a.Clusters, a.Exts = roomy(a.Clusters, six1), roomy(a.Exts, api.Ext{7})
	for i := range a.Path {
		a.Path[i].AS = roomy(a.Path[i].AS, 7)
	}
	for i := range a.Tunnels {
		a.Tunnels[i].Id = roomy(a.Tunnels[i].Id, 7)
	}
	return a
}

// wholeAttrs are attributes, with their spare room, as a text.
func wholeAttrs(a api.Attrs) string {
	a.Path, a.Tunnels = slices.Clone(whole(a.Path)), slices.Clone(whole(a.Tunnels))
	a.Clusters, a.Exts = whole(a.Clusters), whole(a.Exts)
	for i := range a.Path {
		a.Path[i].AS = whole(a.Path[i].AS)
	}
	for i := range a.Tunnels {
		a.Tunnels[i].Id = whole(a.Tunnels[i].Id)
	}
	return fmt.Sprint(a)
}

// spoilAttrs writes all over attributes' rows, in all depths.
func spoilAttrs(a api.Attrs) {
	for _, s := range whole(a.Path) {
		spoil(s.AS, -7)
	}
	for _, u := range whole(a.Tunnels) {
		spoil(u.Id, 99)
	}
	spoil(a.Path, api.Segment{AS: []int{-7}})
	spoil(a.Tunnels, api.Tunnel{Kind: -7})
	spoil(a.Clusters, api.Addr{Size: -7})
	spoil(a.Exts, api.Ext{99})
}

// someRaws are rows of which something is read, left, let go, and refused.
func someRaws() [][]api.Raw {
	l := fullRaws()
	rest := []api.Raw{raw(passed, 77, 1, 2, 3), raw(optional, reach, 4, 5), raw(passed, 77, 1, 2, 3), raw(optional, unreach, 6), raw(optional, 78, 9)}
	return [][]api.Raw{l, rows(l, rest), rows(rest, l), rows(l, l), rows(rest, rest), {raw(0, path, 2), raw(64, path, 2, 0), raw(-1, reach, 9)}, rest[:1], nil}
}

func TestRawsAreLeft(t *testing.T) { // P9.4, W6: what is handed in is not changed, its spare room neither
	for _, l := range someRaws() {
		in := roomyRaws(l)
		was := wholeRaws(in)
		attr.Join(in...)
		if now := wholeRaws(in); now != was {
			t.Errorf("Join changed %s: %s", was, now)
		}
		attr.Read(in)
		if now := wholeRaws(in); now != was {
			t.Errorf("Read changed %s: %s", was, now)
		}
	}
}

func TestAttrsAreLeft(t *testing.T) { // P9.4, W6
	for _, a := range unlike() {
		a, b := roomyAttrs(a), roomyAttrs(full())
		was, wasB := wholeAttrs(a), wholeAttrs(b)
		attr.Right(a)
		attr.Write(a)
		attr.Same(a, b)
		attr.Same(b, a)
		if now, nowB := wholeAttrs(a), wholeAttrs(b); now != was || nowB != wasB {
			t.Errorf("changed were %s, %s: %s, %s", was, wasB, now, nowB)
		}
	}
}

func TestBytesAreLeft(t *testing.T) { // P9.4, W6
	b, _ := attr.Join(rows(fullRaws(), []api.Raw{raw(64, 9, count(300)...)})...)
	for n := range len(b) + 1 {
		in := roomy(b[:n], 7)
		was := slices.Clone(whole(in))
		attr.Split(in)
		if !bytes.Equal(whole(in), was) {
			t.Errorf("Split changed %v: %v", was, whole(in))
		}
	}
}

func TestSplitAnswersNewMemory(t *testing.T) { // P9.4, W6: in all depths, also among the values of one answer
	b, _ := attr.Join(fullRaws()...)
	in := roomy(b, 7)
	l, _ := attr.Split(in)
	again, _ := attr.Split(in)
	spoilRaws(again)
	if !bytes.Equal(in, b) {
		t.Errorf("writing on an answer changed what was handed in: %v", in)
	}
	spoil(in, 99)
	if !equalRaws(l, fullRaws()) {
		t.Errorf("behind writing on what was handed in, and on another answer: %v", l)
	}
	wantApart(t, func() []api.Raw { l, _ := attr.Split(b); return l })
}

// wantApart wants no two values of an answer to share memory.
func wantApart(t *testing.T, answer func() []api.Raw) {
	t.Helper()
	for i, want := range answer() {
		l := answer()
		for j := range l {
			if i != j {
				spoil(l[j].Value, 99)
			}
		}
		if !bytes.Equal(l[i].Value, want.Value) {
			t.Errorf("writing on all others changed the value %d: %v, it was %v", i, l[i].Value, want.Value)
		}
	}
}

func TestJoinAnswersNewMemory(t *testing.T) { // P9.4, W6
	for _, l := range [][]api.Raw{fullRaws(), fullRaws()[:1], {raw(64, 9, count(300)...)}} {
		in := roomyRaws(l)
		was := wholeRaws(in)
		b, _ := attr.Join(in...)
		want := slices.Clone(b)
		again, _ := attr.Join(in...)
		spoil(again, 99)
		if now := wholeRaws(in); now != was {
			t.Errorf("writing on an answer changed what was handed in: %s, it was %s", now, was)
		}
		spoilRaws(in)
		if !bytes.Equal(b, want) {
			t.Errorf("behind writing on what was handed in, and on another answer: %v, want %v", b, want)
		}
	}
}

func TestWriteAnswersNewMemory(t *testing.T) { // P9.4, W6
	in := roomyAttrs(full())
	was := wholeAttrs(in)
	l, _ := attr.Write(in)
	again, _ := attr.Write(in)
	spoilRaws(again)
	if now := wholeAttrs(in); now != was {
		t.Errorf("writing on an answer changed what was handed in: %s, it was %s", now, was)
	}
	spoilAttrs(in)
	if !equalRaws(l, fullRaws()) {
		t.Errorf("behind writing on what was handed in, and on another answer: %v", l)
	}
	wantApart(t, func() []api.Raw { l, _ := attr.Write(full()); return l })
}

func TestReadAnswersNewMemory(t *testing.T) { // P9.4, W6
	for _, l := range someRaws() {
		want, rest, _ := attr.Read(l)
		want, rest = deep(want), roomyRaws(rest)
		in := roomyRaws(l)
		was := wholeRaws(in)
		a, left, _ := attr.Read(in)
		b, leftB, _ := attr.Read(in)
		spoilAttrs(b)
		spoilRaws(leftB)
		if now := wholeRaws(in); now != was {
			t.Errorf("writing on an answer changed what was handed in: %s, it was %s", now, was)
		}
		spoilRaws(in)
		if !equal(a, want) || !equalRaws(left, rest) {
			t.Errorf("behind writing on what was handed in, and on another answer: %v, %v, want %v, %v", a, left, want, rest)
		}
		spoilRaws(left)
		if !equal(a, want) {
			t.Errorf("behind writing on what was left: %v, want %v", a, want)
		}
		wantApart(t, func() []api.Raw { _, rest, _ := attr.Read(l); return rest })
	}
}

func TestReadSegmentsAreApart(t *testing.T) { // P9.4, W6: no two rows of ASs share memory, spare room neither
	for place := range 3 {
		a, _, _ := attr.Read(fullRaws())
		for i, s := range a.Path {
			if i != place {
				spoil(s.AS, -7)
			}
		}
		spoil(a.Clusters, api.Addr{Size: -7})
		spoil(a.Exts, api.Ext{99})
		spoil(a.Tunnels[0].Id, 99)
		if want := full().Path[place]; !slices.Equal(a.Path[place].AS, want.AS) {
			t.Errorf("writing on all others changed the segment %d: %v, it was %v", place, a.Path[place].AS, want.AS)
		}
	}
}
