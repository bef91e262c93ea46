package update_test

import (
	"reflect"
	"testing"

	"vinery/api"
	"vinery/update"
)

// wantSame wants two updates to be the same, or not to be.
func wantSame(t *testing.T, want bool, a, b api.Update) {
	t.Helper()
	if x, y := update.Same(a, b), update.Same(b, a); x != want || y != want {
		t.Errorf("Same(%+v, %+v): %v, %v, want %v", a, b, x, y, want)
	}
}

// eachChange changes one thing after another, in all depths, sees it, and puts it back.
func eachChange(v reflect.Value, see func()) {
	switch v.Kind() {
	case reflect.Struct:
		for i := range v.NumField() {
			eachChange(v.Field(i), see)
		}
	case reflect.Array:
		for i := range v.Len() {
			eachChange(v.Index(i), see)
		}
	case reflect.Slice:
		for i := range v.Len() {
			eachChange(v.Index(i), see)
		}
		eachLength(v, see)
	default:
		was := reflect.ValueOf(v.Interface())
		for _, other := range others(v) {
			v.Set(other)
			see()
		}
		v.Set(was)
	}
}

// eachLength leaves one out of a row, puts one more in, swaps two that are unlike.
func eachLength(v reflect.Value, see func()) {
	was := reflect.ValueOf(v.Interface())
	n := was.Len()
	v.Set(reflect.Append(was.Slice3(0, n, n), reflect.Zero(v.Type().Elem())))
	see()
	if n > 0 {
		v.Set(reflect.Append(was.Slice3(0, n, n), was.Index(n-1)))
		see()
		v.Set(was.Slice(0, n-1))
		see()
		v.Set(was.Slice(1, n))
		see()
	}
	if n > 1 && !reflect.DeepEqual(was.Index(0).Interface(), was.Index(1).Interface()) {
		swapped := reflect.AppendSlice(reflect.Zero(v.Type()), was)
		reflect.Swapper(swapped.Interface())(0, 1)
		v.Set(swapped)
		see()
	}
	v.Set(was)
}

// others are values that are unlike one.
func others(v reflect.Value) []reflect.Value {
	var l []reflect.Value
	add := func(one any) { l = append(l, reflect.ValueOf(one).Convert(v.Type())) }
	switch v.Kind() {
	case reflect.Bool:
		add(!v.Bool())
	case reflect.String:
		add(v.String() + "\x00")
		add("?")
	case reflect.Uint8:
		add(v.Uint() ^ 1)
	default:
		add(v.Int() + 1)
		add(v.Int() ^ 1<<32)
		add(api.MinInt + v.Int()&7)
	}
	return l
}

// unlikes are updates that are unlike one another, right ones and others.
func unlikes() []api.Update {
	l := []api.Update{full(), update.Empty(), {}}
	for _, f := range families() {
		l = append(l, asReach(with(f.table, four1)), asReach(with(f.table, six1)), asUnreach(f.table), asUnreach(bare(f.table)), asUnreach(f.otherSize), asReach(with(f.otherSafi, four1)))
		l = append(l, telling(some(), []api.Table{with(f.table, four1)}, []api.Table{f.table}), telling(nothing(), nil, []api.Table{f.table, f.table}), telling(nothing(), []api.Table{f.table, f.table}, nil))
	}
	return l
}

func TestSame(t *testing.T) { // P10.1: of each pair; one with itself, with another one of the same
	l, twins := unlikes(), unlikes()
	for i := range l {
		wantSame(t, true, l[i], l[i])
		for j := range twins {
			wantSame(t, equal(l[i], twins[j]), l[i], twins[j])
		}
		wantSame(t, true, l[i], twins[i])
	}
}

func TestSameInEachDepth(t *testing.T) { // P10.1: of updates that differ in one thing alone
	changes := 0
	for i, u := range unlikes() {
		other := roomy(unlikes()[i])
		eachChange(reflect.ValueOf(&other).Elem(), func() {
			changes++
			wantSame(t, false, u, other)
		})
		wantSame(t, true, u, other)
	}
	if changes < 5000 {
		t.Errorf("just %d changes were seen", changes)
	}
}

func TestSameOfEmptyRows(t *testing.T) { // P10.1, W5: in each depth, also of what is not right
	tables := func(l ...api.Table) []api.Table { return l }
	for _, pair := range [][2]api.Update{
		{{}, {Reach: []api.Table{}, Unreach: []api.Table{}}},
		{{}, {Attrs: api.Attrs{Path: []api.Segment{}, Clusters: []api.Addr{}, Exts: []api.Ext{}, Tunnels: []api.Tunnel{}}}},
		{{Reach: tables(api.Table{})}, {Reach: tables(api.Table{M: []api.Mroute{}, U: []api.Uroute{}})}},
		{{Unreach: tables(api.Table{Size: 9})}, {Unreach: tables(api.Table{Size: 9, M: []api.Mroute{}, U: []api.Uroute{}})}},
		{{Attrs: api.Attrs{Path: []api.Segment{{}}}}, {Attrs: api.Attrs{Path: []api.Segment{{AS: []int{}}}}}},
		{{Attrs: api.Attrs{Tunnels: []api.Tunnel{{}}}}, {Attrs: api.Attrs{Tunnels: []api.Tunnel{{Id: []byte{}}}}}},
	} {
		wantSame(t, true, pair[0], pair[1])
	}
	wantSame(t, false, api.Update{}, update.Empty())
	wantSame(t, false, api.Update{}, api.Update{Reach: make([]api.Table, 1)})
	wantSame(t, false, api.Update{Reach: make([]api.Table, 1)}, api.Update{Unreach: make([]api.Table, 1)})
}
