package message_test

import (
	"reflect"
	"testing"

	"vinery/api"
	"vinery/message"
	"vinery/update"
)

// wantSame wants two messages to be the same, or not to be.
func wantSame(t *testing.T, want bool, a, b api.Message) {
	t.Helper()
	if x, y := message.Same(a, b), message.Same(b, a); x != want || y != want {
		t.Errorf("Same(%+v, %+v): %v, %v, want %v", a, b, x, y, want)
	}
}

// eachChange changes one thing after another, in all depths, sees it, and puts it back.
func eachChange(v reflect.Value, see func()) {
	switch v.Kind() {
	case reflect.Struct:
		for i := range v.NumField() {
			eachChange(v.Field(i), see)
		}
	case reflect.Array:
		for i := range v.Len() {
			eachChange(v.Index(i), see)
		}
	case reflect.Slice:
		for i := range v.Len() {
			eachChange(v.Index(i), see)
		}
		eachLength(v, see)
	default:
		was := reflect.ValueOf(v.Interface())
		for _, other := range others(v) {
			v.Set(other)
			see()
		}
		v.Set(was)
	}
}

// eachLength leaves one out of a row, puts one more in, swaps two that are unlike.
func eachLength(v reflect.Value, see func()) {
	was := reflect.ValueOf(v.Interface())
	n := was.Len()
	v.Set(reflect.Append(was.Slice3(0, n, n), reflect.Zero(v.Type().Elem())))
	see()
	if n > 0 {
		v.Set(reflect.Append(was.Slice3(0, n, n), was.Index(n-1)))
		see()
		v.Set(was.Slice(0, n-1))
		see()
		v.Set(was.Slice(1, n))
		see()
	}
	if n > 1 && !reflect.DeepEqual(was.Index(0).Interface(), was.Index(1).Interface()) {
		swapped := reflect.AppendSlice(reflect.Zero(v.Type()), was)
		reflect.Swapper(swapped.Interface())(0, 1)
		v.Set(swapped)
		see()
	}
	v.Set(was)
}

// others are values that are unlike one.
func others(v reflect.Value) []reflect.Value {
	var l []reflect.Value
	add := func(one any) { l = append(l, reflect.ValueOf(one).Convert(v.Type())) }
	switch v.Kind() {
	case reflect.Bool:
		add(!v.Bool())
	case reflect.String:
		add(v.String() + "\x00")
		add("?")
	case reflect.Uint8:
		add(v.Uint() ^ 1)
	default:
		add(v.Int() + 1)
		add(v.Int() ^ 1<<32)
		add(v.Int() ^ api.MinInt)
	}
	return l
}

// unlikes are messages that are unlike one another, right ones and others.
func unlikes() []api.Message {
	note := asNote(3, 9, 1, 2).Note
	l := append(rights(),
		api.Message{},
		api.Message{Open: someOpen()},
		api.Message{Family: families[1]},
		api.Message{Note: note},
		api.Message{Update: fullUpdate()},
		api.Message{Kind: kindAlive, Open: fullOpen(), Update: fullUpdate(), Note: note, Family: families[2]},
		api.Message{Kind: kindOpen, Update: fullUpdate(), Open: api.Open{AS: -1, Hold: -1, Id: six1, Families: append(oddFamilies[:3:3], oddFamilies[:3]...)}},
		api.Message{Kind: kindUpdate, Update: api.Update{Attrs: api.Attrs{Pref: -1}}},
		api.Message{Kind: kindUpdate, Update: api.Update{Unreach: make([]api.Table, 3)}},
		asNote(-1, 256, count(mostData + 1)[mostData-7:]...),
		asRefresh(api.Family{Size: 1, Safi: 1}),
	)
	for _, kind := range otherKinds[1:] {
		l = append(l, api.Message{Kind: kind}, api.Message{Kind: kind, Note: note})
	}
	return l
}

// tellsNothing tells whether an update is zero, one way or the other.
func tellsNothing(u api.Update) bool { return equal(u, api.Update{}) || equal(u, update.Empty()) }

func TestSame(t *testing.T) { // P11.1: of each pair; one with itself, with another one of the same
	l, twins := unlikes(), unlikes()
	for i := range l {
		for j := range twins {
			wantSame(t, i == j, l[i], twins[j])
		}
		wantSame(t, true, l[i], l[i])
		wantSame(t, true, l[i], roomy(l[i]))
	}
}

func TestSameInEachDepth(t *testing.T) { // P11.1: of messages that differ in one thing alone, right or not
	changes := 0
	for i, m := range unlikes() {
		for _, empty := range []api.Update{{}, update.Empty()} {
			other := roomy(unlikes()[i])
			if tellsNothing(other.Update) {
				other.Update = empty
			}
			wantSame(t, true, m, other)
			eachChange(reflect.ValueOf(&other).Elem(), func() {
				changes++
				wantSame(t, false, m, other)
			})
			wantSame(t, true, m, other)
		}
	}
	if changes < 5000 {
		t.Errorf("just %d changes were seen", changes)
	}
}

func TestSameOfUpdatesThatTellNothing(t *testing.T) { // P11.1: one that is zero, and one that is update.Empty(), of all Kinds
	for _, kind := range append(otherKinds, kindOpen, kindUpdate, kindNote, kindAlive, kindRefresh) {
		zero, empty := api.Message{Kind: kind}, api.Message{Kind: kind, Update: update.Empty()}
		wantSame(t, true, zero, empty)
		wantSame(t, true, zero, zero)
		wantSame(t, true, empty, empty)
		for _, half := range []api.Attrs{{Med: -1}, {Pref: -1}} {
			other := api.Message{Kind: kind, Update: api.Update{Attrs: half}}
			wantSame(t, false, zero, other)
			wantSame(t, false, empty, other)
		}
		table := []api.Table{{}}
		wantSame(t, false, api.Message{Kind: kind, Update: api.Update{Reach: table}}, api.Message{Kind: kind, Update: api.Update{Attrs: update.Empty().Attrs, Reach: table}})
	}
}

func TestSameOfEmptyRows(t *testing.T) { // P11.1, W5: in each depth, also of what is not right
	for _, m := range unlikes() {
		other := roomy(m)
		emptyRows(reflect.ValueOf(&other).Elem())
		wantSame(t, true, m, other)
	}
	wantSame(t, true, api.Message{Update: api.Update{Reach: []api.Table{{}}}}, api.Message{Update: api.Update{Reach: []api.Table{{M: []api.Mroute{}, U: []api.Uroute{}}}}})
	wantSame(t, false, asOpen(api.Open{}), asOpen(api.Open{Families: make([]api.Family, 1)}))
	wantSame(t, false, asNote(0, 0), asNote(0, 0, 0))
}

// emptyRows puts empty rows in the place of those that are not there, in all depths, and the other way round.
func emptyRows(v reflect.Value) {
	switch v.Kind() {
	case reflect.Struct:
		for i := range v.NumField() {
			emptyRows(v.Field(i))
		}
	case reflect.Slice:
		if v.Len() == 0 {
			v.Set(reflect.MakeSlice(v.Type(), 0, 2))
		}
		for i := range v.Len() {
			emptyRows(v.Index(i))
		}
	}
}
