package message_test

import (
	"bytes"
	"reflect"
	"slices"
	"testing"

	"vinery/api"
	"vinery/message"
	"vinery/update"
)

var (
	_ func(api.Message) bool                                 = message.Right
	_ func(api.Message) ([]byte, api.Errno)                  = message.Bytes
	_ func([]byte) (kind, size int, _ api.Note, _ api.Errno) = message.Head
	_ func(int, []byte) (api.Message, int, api.Note)         = message.Body
	_ func(a, b api.Message) bool                            = message.Same
)

// The limits, as the document's numbers; below: package api tells the same.
const (
	most     = 4096
	headSize = 19
	mostData = 4096 - 19 - 2
)

var (
	_ [0]struct{} = [api.MaxMessage - most]struct{}{}
	_ [0]struct{} = [api.HeadSize - headSize]struct{}{}
)

// The Kinds, and the families of routes, by their numbers; below: package api tells the same.
const (
	kindOpen    = 1
	kindUpdate  = 2
	kindNote    = 3
	kindAlive   = 4
	kindRefresh = 5
	multi       = 5
	private     = 128
)

var _ [0]struct{} = [api.MsgOpen - kindOpen + api.MsgUpdate - kindUpdate + api.MsgNote - kindNote + api.MsgAlive - kindAlive + api.MsgRefresh - kindRefresh]struct{}{}

// otherKinds are none of the five.
var otherKinds = []int{0, 6, 7, -1, -4, 255, 256, 257, 256 + kindAlive, 1<<32 + kindAlive, api.MinInt, api.MinInt + kindAlive, api.MaxInt}

// Addresses.
var (
	four1 = v4(10, 0, 0, 1)
	six1  = api.Addr{Size: 16, B: [16]byte{32, 1, 13, 184, 15: 1}}
)

func v4(a, b, c, d byte) api.Addr { return api.Addr{Size: 4, B: [16]byte{a, b, c, d}} }

// The four families, and some that are none.
var (
	families    = []api.Family{{Size: 4, Safi: multi}, {Size: 16, Safi: multi}, {Size: 4, Safi: private}, {Size: 16, Safi: private}}
	oddFamilies = []api.Family{{}, {Size: 4}, {Safi: multi}, {Size: 16}, {Safi: private}, {Size: 1, Safi: multi}, {Size: 2, Safi: private}, {Size: 5, Safi: multi}, {Size: multi, Safi: 4}, {Size: 4, Safi: 1}, {Size: 16, Safi: 4}, {Size: 4, Safi: 6}, {Size: 4, Safi: 127}, {Size: 16, Safi: 129}, {Size: 4, Safi: 256 + multi}, {Size: 256 + 4, Safi: multi}, {Size: -4, Safi: multi}, {Size: 4, Safi: -multi}, {Size: 1<<32 + 4, Safi: multi}, {Size: 4, Safi: 1<<32 + private}, {Size: api.MinInt + 4, Safi: multi}, {Size: api.MaxInt, Safi: api.MaxInt}}
)

// familyBytes are those of the four, in their order.
var familyBytes = [][]byte{{0, 1, 0, multi}, {0, 2, 0, multi}, {0, 1, 0, private}, {0, 2, 0, private}}

// someOpen is the one of the chapter's example.
func someOpen() api.Open {
	return api.Open{AS: 65000, Hold: 90, Id: four1, Families: []api.Family{{Size: 4, Safi: multi}}}
}

// fullOpen tells all that one can.
func fullOpen() api.Open {
	return api.Open{AS: 1<<32 - 2, Hold: 0x0102, Id: v4(192, 0, 2, 255), Families: slices.Clone(families), Refresh: true}
}

// fullUpdate is one with a table of each sort.
func fullUpdate() api.Update {
	u := update.Empty()
	u.Attrs.Med = 7
	u.Attrs.Path = []api.Segment{{AS: []int{65000, 1}}}
	u.Attrs.Clusters = []api.Addr{four1}
	u.Attrs.Exts = []api.Ext{{0, 2, 3}}
	u.Attrs.Tunnels = []api.Tunnel{{Kind: api.TunnelMldp, Root: four1, Id: []byte{1, 2}}}
	u.Reach = []api.Table{{Size: 4, Safi: multi, Next: four1, M: []api.Mroute{{Kind: api.RouteIntra, From: four1}}}}
	u.Unreach = []api.Table{{Size: 16, Safi: private, U: []api.Uroute{{Prefix: api.Prefix{Addr: api.Addr{Size: 16}}, Label: 16}}}}
	return u
}

func asOpen(o api.Open) api.Message      { return api.Message{Kind: kindOpen, Open: o} }
func asUpdate(u api.Update) api.Message  { return api.Message{Kind: kindUpdate, Update: u} }
func asRefresh(f api.Family) api.Message { return api.Message{Kind: kindRefresh, Family: f} }
func asNote(code, sub int, data ...byte) api.Message {
	return api.Message{Kind: kindNote, Note: api.Note{Code: code, Sub: sub, Data: data}}
}

// alive is the one of its Kind.
var alive = api.Message{Kind: kindAlive}

// rights are messages that are, of all Kinds: anew in each call.
func rights() []api.Message {
	return []api.Message{
		asOpen(someOpen()), asOpen(fullOpen()), asOpen(api.Open{AS: 1, Id: four1}),
		asUpdate(fullUpdate()), asUpdate(update.Empty()),
		asNote(6, 2), asNote(0, 255, 1, 2, 3),
		alive,
		asRefresh(families[0]), asRefresh(families[3]),
	}
}

// cat are rows, one behind another, in new memory.
func cat[T any](l ...[]T) []T { return slices.Concat(l...) }

// mark is what each message begins with.
func mark() []byte { return slices.Repeat([]byte{255}, 16) }

// framed is a body with its head.
func framed(kind int, body []byte) []byte {
	n := headSize + len(body)
	return cat(mark(), []byte{byte(n >> 8), byte(n), byte(kind)}, body)
}

// count is a row of so many bytes, none of which is 0.
func count(n int) []byte {
	b := make([]byte, n)
	for i := range b {
		b[i] = byte(1 + i%255)
	}
	return b
}

// tidy is a thing without the rows that are empty, in all depths.
func tidy[T any](one T) T {
	v := reflect.New(reflect.TypeOf(one)).Elem()
	v.Set(reflect.ValueOf(one))
	tidyIn(v)
	return v.Interface().(T)
}

func tidyIn(v reflect.Value) {
	switch v.Kind() {
	case reflect.Struct:
		for i := range v.NumField() {
			tidyIn(v.Field(i))
		}
	case reflect.Slice:
		if v.Len() == 0 {
			v.SetZero()
			return
		}
		l := reflect.MakeSlice(v.Type(), v.Len(), v.Len())
		reflect.Copy(l, v)
		for i := range v.Len() {
			tidyIn(l.Index(i))
		}
		v.Set(l)
	}
}

// equal tells whether two things are, in all depths; rows that are not there are as those that are empty.
func equal[T any](a, b T) bool { return reflect.DeepEqual(tidy(a), tidy(b)) }

// zeroed is a message whose Update is without anything, where it tells nothing.
func zeroed(m api.Message) api.Message {
	if m.Kind != kindUpdate && equal(m.Update, update.Empty()) {
		m.Update = api.Update{}
	}
	return m
}

// wantWritten wants a message to be right, to have this body behind its head, and both to be read as it.
func wantWritten(t *testing.T, m api.Message, body []byte) {
	t.Helper()
	if !message.Right(m) {
		t.Errorf("%+v is not right", m)
	}
	b, e := message.Bytes(m)
	if want := framed(m.Kind, body); e != api.OK || !bytes.Equal(b, want) {
		t.Fatalf("Bytes(%+v): %v, %v, want %v", m, b, e, want)
	}
	wantHead(t, b, m.Kind, len(body))
	wantBody(t, m.Kind, b[headSize:], m, api.OutOk)
}

// wantOdd wants a message not to be right.
func wantOdd(t *testing.T, m api.Message) {
	t.Helper()
	if message.Right(m) {
		t.Errorf("%+v is right", m)
	}
	if b, e := message.Bytes(m); e != api.ErrArg || len(b) != 0 {
		t.Errorf("Bytes(%+v): %v, %v, want ErrArg", m, b, e)
	}
}

// wantRight wants a message to be right, or not to be.
func wantRight(t *testing.T, want bool, m api.Message) {
	t.Helper()
	if !want {
		wantOdd(t, m)
	} else if b, e := message.Bytes(m); e != api.OK || len(b) < headSize || !message.Right(m) {
		t.Errorf("%+v: %v, %v, right: %v", m, b, e, message.Right(m))
	}
}

// wantHead wants a head to be right.
func wantHead(t *testing.T, b []byte, kind, size int) {
	t.Helper()
	k, n, note, e := message.Head(b)
	if k != kind || n != size || !equal(note, api.Note{}) || e != api.OK {
		t.Errorf("Head(%v): %d, %d, %v, %v, want %d, %d", b[:headSize], k, n, note, e, kind, size)
	}
}

// wantWrong wants a head to have this wrong thing as its first one.
func wantWrong(t *testing.T, b []byte, sub int, data ...byte) {
	t.Helper()
	k, n, note, e := message.Head(b)
	if k != 0 || n != 0 || !equal(note, api.Note{Code: 1, Sub: sub, Data: data}) || e != api.OK {
		t.Errorf("Head(%v): %d, %d, %v, %v, want {1 %d %v}", b[:headSize], k, n, note, e, sub, data)
	}
}

// wantBody wants a body to be read as a message, with an outcome that ends no session.
func wantBody(t *testing.T, kind int, b []byte, want api.Message, out int) {
	t.Helper()
	m, o, n := message.Body(kind, b)
	if !equal(m, zeroed(want)) || o != out || !equal(n, api.Note{}) {
		t.Errorf("Body(%d, %v): %+v, %d, %v, want %+v, %d", kind, b, m, o, n, want, out)
	}
}

// wantReset wants a body to end the session.
func wantReset(t *testing.T, kind int, b []byte, code, sub int, data ...byte) {
	t.Helper()
	m, o, n := message.Body(kind, b)
	if !equal(m, api.Message{}) || o != api.OutReset || !equal(n, api.Note{Code: code, Sub: sub, Data: data}) {
		t.Errorf("Body(%d, %v): %+v, %d, %v, want {%d %d %v}", kind, b, m, o, n, code, sub, data)
	}
}
