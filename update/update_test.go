package update_test

import (
	"bytes"
	"reflect"
	"slices"
	"testing"

	"vinery/api"
	"vinery/update"
)

var (
	_ func(api.Update) bool                    = update.Right
	_ func(api.Update) ([]byte, api.Errno)     = update.Bytes
	_ func([]byte) (api.Update, int, api.Note) = update.Parse
	_ func(a, b api.Update) bool               = update.Same
	_ func() api.Update                        = update.Empty
)

// The limits, as the document's numbers; below: package api tells the same.
const (
	mostBody  = 4096 - 19
	mostValue = 4096
	mostAttrs = 64
)

var (
	_ [0]struct{} = [api.MaxMessage - api.HeadSize - mostBody]struct{}{}
	_ [0]struct{} = [api.MaxValue - mostValue]struct{}{}
	_ [0]struct{} = [api.MaxAttrs - mostAttrs]struct{}{}
)

// The kinds, flags, and families of routes, by their numbers.
const (
	optional   = 128
	transitive = 64
	partial    = 32
	long       = 16
	reach      = 14
	unreach    = 15
	multi      = 5
	private    = 128
)

// Addresses.
var (
	none     = api.Addr{}
	four1    = v4(10, 0, 0, 1)
	four2    = v4(10, 0, 0, 2)
	six1     = api.Addr{Size: 16, B: [16]byte{32, 1, 13, 184, 15: 1}}
	oddAddrs = []api.Addr{{Size: 4, B: [16]byte{10, 0, 0, 1, 1}}, {Size: 4, B: [16]byte{15: 1}}, {B: [16]byte{1}}, {B: [16]byte{15: 1}}, {Size: 1}, {Size: 3}, {Size: 5}, {Size: 12}, {Size: 17}, {Size: 24}, {Size: -4}, {Size: 260}, {Size: 1<<32 + 4}, {Size: api.MinInt}, {Size: api.MaxInt}}
)

func v4(a, b, c, d byte) api.Addr { return api.Addr{Size: 4, B: [16]byte{a, b, c, d}} }

// v6 is one of IPv6, by its first byte and its last one.
func v6(first, last byte) api.Addr {
	return api.Addr{Size: 16, B: [16]byte{0: first, 15: last}}
}

var dist = api.RD{0, 0, 0, 1, 0, 0, 0, 1}

// The routes: of no flow, of IPv4, of IPv6.
var (
	intra   = api.Mroute{Kind: api.RouteIntra, RD: dist, From: four1}
	inter   = api.Mroute{Kind: api.RouteInter, RD: dist, AS: 65000}
	select4 = api.Mroute{Kind: api.RouteSelect, RD: dist, Group: v4(224, 0, 0, 1), From: four1}
	leaf4   = api.Mroute{Kind: api.RouteLeaf, Key: string(select4Bytes), From: four2}
	active4 = api.Mroute{Kind: api.RouteActive, RD: dist, Source: v4(10, 1, 1, 1), Group: v4(224, 0, 0, 1)}
	active6 = api.Mroute{Kind: api.RouteActive, RD: dist, Source: v6(32, 1), Group: v6(255, 2)}
	all4    = api.Uroute{RD: dist, Prefix: api.Prefix{Addr: v4(0, 0, 0, 0)}}
	some4   = api.Uroute{RD: dist, Prefix: api.Prefix{Addr: v4(10, 1, 0, 0), Bits: 16}, Label: 16}
	some6   = api.Uroute{RD: dist, Prefix: api.Prefix{Addr: v6(32, 0), Bits: 9}, Label: 1<<20 - 1}
)

// These as bytes.
var (
	intraBytes   = []byte{1, 12, 0, 0, 0, 1, 0, 0, 0, 1, 10, 0, 0, 1}
	interBytes   = []byte{2, 12, 0, 0, 0, 1, 0, 0, 0, 1, 0, 0, 253, 232}
	select4Bytes = []byte{3, 18, 0, 0, 0, 1, 0, 0, 0, 1, 0, 32, 224, 0, 0, 1, 10, 0, 0, 1}
	leaf4Bytes   = cat([]byte{4, 24}, select4Bytes, []byte{10, 0, 0, 2})
	active4Bytes = []byte{5, 18, 0, 0, 0, 1, 0, 0, 0, 1, 32, 10, 1, 1, 1, 32, 224, 0, 0, 1}
	active6Bytes = []byte{5, 42, 0, 0, 0, 1, 0, 0, 0, 1, 128, 32, 0, 0, 0, 0, 0, 0, 0, 0, 0, 0, 0, 0, 0, 0, 1, 128, 255, 0, 0, 0, 0, 0, 0, 0, 0, 0, 0, 0, 0, 0, 0, 2}
	all4Bytes    = []byte{88, 0, 0, 1, 0, 0, 0, 1, 0, 0, 0, 1}
	some4Bytes   = []byte{104, 0, 1, 1, 0, 0, 0, 1, 0, 0, 0, 1, 10, 1}
	some6Bytes   = []byte{97, 255, 255, 241, 0, 0, 0, 1, 0, 0, 0, 1, 32, 0}
)

// family is one of the four.
type family struct {
	table     api.Table // with routes, without a Next
	first     []byte    // what stands ahead of all else
	ahead     []byte    // what stands ahead of a Next
	row       []byte    // the routes
	otherSize api.Table // a route of the same Safi, of the other size
	otherSafi api.Table // routes of the other Safi, of the same size
}

// families are the four.
func families() []family {
	guard := make([]byte, 8)
	m4, m6 := []api.Mroute{intra, select4, leaf4, active4, inter}, []api.Mroute{active6, intra}
	u4, u6 := []api.Uroute{some4, all4}, []api.Uroute{some6}
	return []family{
		{table: api.Table{Size: 4, Safi: multi, M: m4}, first: []byte{0, 1, multi}, row: cat(intraBytes, select4Bytes, leaf4Bytes, active4Bytes, interBytes), otherSize: api.Table{M: m6[:1]}, otherSafi: api.Table{U: u4}},
		{table: api.Table{Size: 16, Safi: multi, M: m6}, first: []byte{0, 2, multi}, row: cat(active6Bytes, intraBytes), otherSize: api.Table{M: m4[1:2]}, otherSafi: api.Table{U: u6}},
		{table: api.Table{Size: 4, Safi: private, U: u4}, first: []byte{0, 1, private}, row: cat(some4Bytes, all4Bytes), otherSize: api.Table{U: u6}, ahead: guard, otherSafi: api.Table{M: m4}},
		{table: api.Table{Size: 16, Safi: private, U: u6}, first: []byte{0, 2, private}, row: some6Bytes, otherSize: api.Table{U: u4[:1]}, ahead: guard, otherSafi: api.Table{M: m6}},
	}
}

// with is a table that is reached at an address.
func with(t api.Table, next api.Addr) api.Table {
	t.Next = next
	return t
}

// bare is a table without its routes.
func bare(t api.Table) api.Table { return api.Table{Size: t.Size, Safi: t.Safi, Next: t.Next} }

// nextBytes are a Next's, with what stands around them.
func nextBytes(f family, next api.Addr) []byte {
	return cat([]byte{byte(len(f.ahead) + next.Size)}, f.ahead, next.B[:next.Size], []byte{0})
}

// reached is the value of a family's routes, reached at an address; withdrawn is that of those that are not any more.
func reached(f family, next api.Addr) []byte { return cat(f.first, nextBytes(f, next), f.row) }
func withdrawn(f family) []byte              { return cat(f.first, f.row) }

// nothing are the attributes of which none is there.
func nothing() api.Attrs { return api.Attrs{Med: -1, Pref: -1} }

// some are attributes.
func some() api.Attrs {
	return api.Attrs{
		Origin:     1,
		Path:       []api.Segment{{AS: []int{65000, 1}}, {Set: true, AS: []int{7}}},
		Med:        9,
		Pref:       100,
		Originator: four1,
		Clusters:   []api.Addr{four2, four1},
		Exts:       []api.Ext{{0, 2, 1, 2, 3, 4, 5, 6}, {9, 8, 7, 6, 5, 4, 3, 2}},
		Tunnels:    []api.Tunnel{{Leaf: true, Kind: api.TunnelMldp, Label: 17, Root: four1, Id: []byte{1, 2}}},
	}
}

// someBytes are those.
var someBytes = []byte{
	64, 1, 1, 1,
	64, 2, 16, 2, 2, 0, 0, 253, 232, 0, 0, 0, 1, 1, 1, 0, 0, 0, 7,
	128, 4, 4, 0, 0, 0, 9,
	64, 5, 4, 0, 0, 0, 100,
	128, 9, 4, 10, 0, 0, 1,
	128, 10, 8, 10, 0, 0, 2, 10, 0, 0, 1,
	192, 16, 16, 0, 2, 1, 2, 3, 4, 5, 6, 9, 8, 7, 6, 5, 4, 3, 2,
	192, 22, 17, 1, 2, 0, 1, 16, 6, 0, 1, 4, 10, 0, 0, 1, 0, 2, 1, 2,
}

// least are the bytes of those that a Reach needs, with nothing in them.
var least = []byte{64, 1, 1, 0, 64, 2, 0}

// telling is an update of what is reached and what is withdrawn.
func telling(a api.Attrs, reach, unreach []api.Table) api.Update {
	return api.Update{Attrs: a, Reach: reach, Unreach: unreach}
}

// full is an update that tells all that one can.
func full() api.Update {
	f := families()
	return telling(some(), []api.Table{with(f[0].table, four1)}, []api.Table{f[2].table})
}

// fullBytes are its body.
func fullBytes() []byte {
	f := families()
	return body(cat(someBytes, raw(optional, reach, reached(f[0], four1)...), raw(optional, unreach, withdrawn(f[2])...)))
}

// raw is an attribute in bytes.
func raw(flags, kind byte, value ...byte) []byte {
	if n := len(value); n > 255 || flags&long != 0 {
		return cat([]byte{flags | long, kind, byte(n >> 8), byte(n)}, value)
	}
	return cat([]byte{flags, kind, byte(len(value))}, value)
}

// body is one of attributes in bytes.
func body(attrs []byte) []byte {
	return cat([]byte{0, 0, byte(len(attrs) >> 8), byte(len(attrs))}, attrs)
}

// cat are rows, one behind another, in new memory.
func cat[T any](l ...[]T) []T { return slices.Concat(l...) }

// count is a row of so many bytes, none of which is 0.
func count(n int) []byte {
	b := make([]byte, n)
	for i := range b {
		b[i] = byte(1 + i%255)
	}
	return b
}

// tidy is a thing without the rows that are empty, in all depths.
func tidy[T any](one T) T {
	v := reflect.New(reflect.TypeOf(one)).Elem()
	v.Set(reflect.ValueOf(one))
	tidyIn(v)
	return v.Interface().(T)
}

func tidyIn(v reflect.Value) {
	switch v.Kind() {
	case reflect.Struct:
		for i := range v.NumField() {
			tidyIn(v.Field(i))
		}
	case reflect.Slice:
		if v.Len() == 0 {
			v.SetZero()
			return
		}
		l := reflect.MakeSlice(v.Type(), v.Len(), v.Len())
		reflect.Copy(l, v)
		for i := range v.Len() {
			tidyIn(l.Index(i))
		}
		v.Set(l)
	}
}

// equal tells whether two things are, in all depths; rows that are not there are as those that are empty.
func equal[T any](a, b T) bool { return reflect.DeepEqual(tidy(a), tidy(b)) }

// wantBody wants an update to be right, to have this body, and the body to be read as it.
func wantBody(t *testing.T, u api.Update, want []byte) {
	t.Helper()
	if !update.Right(u) {
		t.Errorf("%+v is not right", u)
	}
	if b, e := update.Bytes(u); e != api.OK || !bytes.Equal(b, want) {
		t.Errorf("Bytes(%+v): %v, %v, want %v", u, b, e, want)
	}
	wantParsed(t, want, u, api.OutOk)
}

// wantOdd wants an update not to be right.
func wantOdd(t *testing.T, u api.Update) {
	t.Helper()
	if update.Right(u) {
		t.Errorf("%+v is right", u)
	}
	if b, e := update.Bytes(u); e != api.ErrArg || len(b) != 0 {
		t.Errorf("Bytes(%+v): %v, %v, want ErrArg", u, b, e)
	}
}

// wantLong wants an update to be right, and too long.
func wantLong(t *testing.T, u api.Update) {
	t.Helper()
	if b, e := update.Bytes(u); e != api.ErrLong || len(b) != 0 || !update.Right(u) {
		t.Errorf("Bytes: %d bytes, %v, right %v, want ErrLong", len(b), e, update.Right(u))
	}
}

// wantParsed wants bytes to be read as an update, with an outcome that ends no session.
func wantParsed(t *testing.T, b []byte, want api.Update, out int) {
	t.Helper()
	u, o, n := update.Parse(b)
	if !equal(u, want) || o != out || !equal(n, api.Note{}) {
		t.Errorf("Parse(%v): %+v, %d, %v, want %+v, %d", b, u, o, n, want, out)
	}
}

// wantReset wants bytes to end the session.
func wantReset(t *testing.T, b []byte, sub int) {
	t.Helper()
	u, o, n := update.Parse(b)
	if !equal(u, api.Update{Attrs: nothing()}) || o != api.OutReset || !equal(n, api.Note{Code: 3, Sub: sub}) {
		t.Errorf("Parse(%v): %+v, %d, %v, want {3 %d}", b, u, o, n, sub)
	}
}
