package community_test

import (
	"bytes"
	"slices"
	"testing"

	"vinery/api"
	"vinery/community"
)

var (
	_ func(...api.Ext) []api.Ext          = community.Set
	_ func(a, b []api.Ext) bool           = community.Meet
	_ func([]api.Ext) []byte              = community.Bytes
	_ func([]byte) ([]api.Ext, api.Errno) = community.Read
)

// Some of each kind, rising within a kind.
var (
	targets = []api.Ext{{0, 2}, {0, 2, 253, 232, 0, 0, 0, 77}, {0, 2, 253, 232, 0, 0, 0, 78}, {1, 2, 10, 0, 0, 1, 0, 7}, {2, 2, 250, 86, 234, 0, 0, 7}}
	others  = []api.Ext{{}, {0, 9, 253, 232}, {1, 9}, {1, 11, 10, 0, 0, 1, 0, 3}, {2, 9, 0, 0, 253, 232}, {2, 9, 0, 0, 253, 232, 0, 1}, {3, 2}, {64, 2}, {255, 255, 255, 255, 255, 255, 255, 255}}
)

// wantRow wants a row of communities.
func wantRow(t *testing.T, call string, got []api.Ext, want ...api.Ext) {
	t.Helper()
	if !slices.Equal(got, want) {
		t.Errorf("%s: %v, want %v", call, got, want)
	}
}

// wantMeet wants two to have a target in common or not, either way round, and as sets too.
func wantMeet(t *testing.T, a, b []api.Ext, want bool) {
	t.Helper()
	setA, setB := community.Set(a...), community.Set(b...)
	for _, pair := range [][2][]api.Ext{{a, b}, {b, a}, {setA, setB}, {setB, setA}, {a, setB}, {setB, a}, {setA, b}, {b, setA}} {
		if community.Meet(pair[0], pair[1]) != want {
			t.Errorf("Meet(%v, %v): want %v", pair[0], pair[1], want)
		}
	}
}

func TestSet(t *testing.T) { // P4.4
	a, b, c := targets[1], targets[2], others[3]
	wantRow(t, "none", community.Set())
	wantRow(t, "nil", community.Set(nil...))
	wantRow(t, "empty", community.Set([]api.Ext{}...))
	wantRow(t, "one", community.Set(a), a)
	wantRow(t, "one many times", community.Set(a, a, a, a, a, a, a, a, a, a, a, a, a, a, a, a, a, a, a, a), a)
	wantRow(t, "zero ones", community.Set(api.Ext{}, api.Ext{}), api.Ext{})
	wantRow(t, "b a b", community.Set(b, a, b), a, b)
	wantRow(t, "a b", community.Set(a, b), a, b)
	wantRow(t, "apart", community.Set(a, b, a, c, b, a), a, b, c)
}

func TestSetGoesByAllBytes(t *testing.T) { // P4.4: rising by their bytes, the first one that is unlike decides
	for i := range 8 {
		for n := range 255 {
			a, b := api.Ext{}, api.Ext{}
			a[i], b[i] = byte(n), byte(n+1)
			for j := i + 1; j < 8; j++ {
				a[j] = 255
			}
			wantRow(t, "Set", community.Set(b, a), a, b)
			wantRow(t, "Set", community.Set(a, b), a, b)
		}
	}
}

func TestSetFalling(t *testing.T) { // P4.4, P4.8: many in falling order, each of them twice
	var falling, rising []api.Ext
	for n := range 1 << 16 {
		e := api.Ext{byte(n >> 8), 2, 0, 0, 0, byte(n)}
		rising = append(rising, e)
		falling = append(falling, e, e)
	}
	slices.Reverse(falling)
	wantRow(t, "falling", community.Set(falling...)[:1<<10], rising[:1<<10]...)
	if got := community.Set(falling...); !slices.Equal(got, rising) {
		t.Errorf("%d of %d, or not in order", len(got), len(rising))
	}
}

func TestSetHangsNotOnOrder(t *testing.T) { // P4.8: each order of some, each of them once or more often
	all := []api.Ext{others[6], targets[3], others[0], targets[0]}
	want := []api.Ext{others[0], targets[0], targets[3], others[6]}
	for n := range 4 * 4 * 4 * 4 * 4 * 4 {
		var row []api.Ext
		for m, i := n, 0; i < 6; m, i = m/4, i+1 {
			row = append(row, all[m%4])
		}
		some := slices.DeleteFunc(slices.Clone(want), func(e api.Ext) bool { return !slices.Contains(row, e) })
		wantRow(t, "Set", community.Set(row...), some...)
		wantRow(t, "Set of a set", community.Set(community.Set(row...)...), some...)
	}
}

func TestMeet(t *testing.T) { // P4.4, P4.8
	a, b, c := targets[1], targets[2], targets[3]
	wantMeet(t, []api.Ext{a, b}, []api.Ext{b}, true)
	wantMeet(t, []api.Ext{a}, []api.Ext{a}, true)
	wantMeet(t, []api.Ext{c, b, a}, []api.Ext{a}, true) // falling
	wantMeet(t, []api.Ext{a, b, c}, []api.Ext{c, c, c}, true)
	wantMeet(t, []api.Ext{a}, []api.Ext{b}, false)
	wantMeet(t, []api.Ext{a, a, a}, []api.Ext{b, c}, false)
	for _, e := range targets { // with others about them
		row := append(slices.Clone(others), e)
		wantMeet(t, row, []api.Ext{e}, true)
		wantMeet(t, row, slices.Concat([]api.Ext{e}, others, targets), true)
		wantMeet(t, row, others, false)
	}
}

func TestMeetEmpty(t *testing.T) { // P4.4: empty rows, and those without a target
	for _, none := range [][]api.Ext{nil, {}} {
		wantMeet(t, none, none, false)
		wantMeet(t, none, nil, false)
		wantMeet(t, none, targets, false)
		wantMeet(t, none, others, false)
	}
	wantMeet(t, others, others, false)
	wantMeet(t, others, targets, false)
}

func TestMeetOthers(t *testing.T) { // P4.4: what is no target is not looked at, in whatever place it stands
	for _, e := range others {
		wantMeet(t, []api.Ext{e}, []api.Ext{e}, false)
		wantMeet(t, []api.Ext{e, targets[0]}, []api.Ext{targets[1], e}, false)
		wantMeet(t, []api.Ext{targets[0], e}, []api.Ext{e, targets[1]}, false)
		wantMeet(t, []api.Ext{targets[0], e}, []api.Ext{e, targets[0]}, true)
	}
	a, b := api.Ext{0, 2, 0, 1, 0, 0, 0, 1}, api.Ext{2, 2, 0, 1, 0, 0, 0, 1} // alike but for the first byte
	wantMeet(t, []api.Ext{a}, []api.Ext{b}, false)
	wantMeet(t, []api.Ext{a}, []api.Ext{{0, 9, 0, 1, 0, 0, 0, 1}}, false)
}

func TestMeetLong(t *testing.T) { // W1, P4.4: rows of any length
	var even, odd []api.Ext
	for n := range 1 << 16 {
		even = append(even, targetOf(0, 7, 2*n))
		odd = append(odd, targetOf(0, 7, 2*n+1))
	}
	slices.Reverse(odd)
	wantMeet(t, even, odd, false)
	wantMeet(t, even, append(odd, even[1<<15]), true)
}

func TestBytes(t *testing.T) { // P4.5
	for _, none := range [][]api.Ext{nil, {}} {
		if b := community.Bytes(none); len(b) != 0 {
			t.Errorf("none: %v", b)
		}
	}
	b := community.Bytes([]api.Ext{{1, 2, 3, 4, 5, 6, 7, 8}, {}, {255, 1}, {1, 2, 3, 4, 5, 6, 7, 8}})
	if !bytes.Equal(b, []byte{1, 2, 3, 4, 5, 6, 7, 8, 0, 0, 0, 0, 0, 0, 0, 0, 255, 1, 0, 0, 0, 0, 0, 0, 1, 2, 3, 4, 5, 6, 7, 8}) {
		t.Errorf("four: %v", b)
	}
}

func TestRead(t *testing.T) { // P4.5: in the order that they stand in, each as often as it does
	for _, none := range [][]byte{nil, {}} {
		l, errno := community.Read(none)
		if errno != api.OK || len(l) != 0 {
			t.Errorf("none: %v, %v", l, errno)
		}
	}
	l, errno := community.Read([]byte{1, 2, 3, 4, 5, 6, 7, 8})
	if wantRow(t, "eight", l, api.Ext{1, 2, 3, 4, 5, 6, 7, 8}); errno != api.OK {
		t.Errorf("eight: %v", errno)
	}
	l, errno = community.Read([]byte{255, 1, 0, 0, 0, 0, 0, 9, 0, 2, 0, 0, 0, 0, 0, 0, 255, 1, 0, 0, 0, 0, 0, 9})
	if wantRow(t, "24", l, api.Ext{255, 1, 7: 9}, api.Ext{0, 2}, api.Ext{255, 1, 7: 9}); errno != api.OK {
		t.Errorf("24: %v", errno)
	}
}

func TestReadLengths(t *testing.T) { // P4.5: each length, also one past what an attribute has room for
	b := make([]byte, 1<<16+1)
	for i := range b {
		b[i] = byte(i % 251)
	}
	for n := range 1030 {
		wantRead(t, b[:n])
	}
	for _, n := range []int{4095, 4096, 4097, 1<<16 - 8, 1<<16 - 1, 1 << 16, 1<<16 + 1} {
		wantRead(t, b[:n])
	}
}

// wantRead wants bytes to be read, and to be written again, if there are 8 for each.
func wantRead(t *testing.T, b []byte) {
	t.Helper()
	l, errno := community.Read(b)
	if len(b)%8 != 0 {
		if errno != api.ErrForm || len(l) != 0 {
			t.Errorf("%d bytes: %d, %v, want ErrForm", len(b), len(l), errno)
		}
		return
	}
	if errno != api.OK || len(l) != len(b)/8 || !bytes.Equal(community.Bytes(l), b) {
		t.Errorf("%d bytes: %d, %v", len(b), len(l), errno)
	}
}

// roomy is a row with spare room, which is not zero.
func roomy[T any](row []T, fill T) []T {
	return append(slices.Clone(row), fill, fill, fill, fill)[:len(row)]
}

// wantLeft wants a row, with its spare room, to be as it was.
func wantLeft[T comparable](t *testing.T, call string, row, was []T) {
	t.Helper()
	if !slices.Equal(row[:len(was)], was) {
		t.Errorf("%s changed what was handed in: %v, it was %v", call, row[:len(was)], was)
	}
}

func TestRowsAreLeft(t *testing.T) { // P4.6, W6: what is handed in is not changed, its spare room neither
	a := roomy([]api.Ext{targets[2], others[1], targets[2], targets[0], others[1]}, others[8])
	b := roomy([]api.Ext{targets[4], targets[3], targets[4], targets[2]}, others[8])
	wasA, wasB := slices.Clone(a[:len(a)+4]), slices.Clone(b[:len(b)+4])
	community.Set(a...)
	wantLeft(t, "Set", a, wasA)
	community.Meet(a, b)
	wantLeft(t, "Meet", a, wasA)
	wantLeft(t, "Meet", b, wasB)
	community.Bytes(a)
	wantLeft(t, "Bytes", a, wasA)
	for _, n := range []int{0, 7, 8, 9, 16} {
		c := roomy(bytes.Repeat([]byte{7}, n), 9)
		wasC := slices.Clone(c[:len(c)+4])
		community.Read(c)
		wantLeft(t, "Read", c, wasC)
	}
}

// spoil writes all over a row and its spare room.
func spoil[T any](row []T, n T) {
	row = row[:cap(row)]
	for i := range row {
		row[i] = n
	}
}

func TestAnswersAreNew(t *testing.T) { // P4.6, W6: neither does an answer change with what was handed in, nor the other way round, nor with another answer
	want := []api.Ext{targets[0], targets[1], targets[2]}
	for _, row := range [][]api.Ext{want, {targets[2], targets[0], targets[1], targets[0]}} {
		in := roomy(row, others[8])
		was := slices.Clone(in[:cap(in)])
		set, again := community.Set(in...), community.Set(in...)
		spoil(again, others[8])
		wantLeft(t, "writing on an answer", in, was)
		spoil(in, others[8])
		wantRow(t, "Set", set, want...)
	}
	in := roomy(slices.Clone(want), others[8])
	b, other := community.Bytes(in), community.Bytes(in)
	spoil(in, others[8])
	spoil(other, 9)
	l, errno := community.Read(b)
	more, _ := community.Read(b)
	was := slices.Clone(b)
	spoil(more, others[8])
	wantLeft(t, "writing on an answer", b, was)
	spoil(b, 9)
	if wantRow(t, "Read", l, want...); errno != api.OK {
		t.Errorf("Read: %v", errno)
	}
}
