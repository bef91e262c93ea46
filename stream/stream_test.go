package stream_test

import (
	"reflect"
	"slices"
	"testing"

	"vinery/api"
	"vinery/message"
	"vinery/stream"
	"vinery/update"
)

var (
	_ func() *stream.Stream                      = stream.New
	_ func(*stream.Stream, []byte) []api.Heard   = (*stream.Stream).Feed
	_ func(*stream.Stream) (_ api.Note, is bool) = (*stream.Stream).Broken
	_ func(*stream.Stream) int                   = (*stream.Stream).Waiting
)

// The limits, as the document's numbers; below: package api tells the same.
const (
	most     = 4096
	headSize = 19
)

var (
	_ [0]struct{} = [api.MaxMessage - most]struct{}{}
	_ [0]struct{} = [api.HeadSize - headSize]struct{}{}
)

// The Kinds, and what comes of messages, by their numbers; below: package api tells the same.
const (
	kindOpen    = 1
	kindUpdate  = 2
	kindNote    = 3
	kindAlive   = 4
	kindRefresh = 5

	fine      = 0
	discarded = 1
	withdrawn = 2
)

var (
	_ [0]struct{} = [api.MsgOpen - kindOpen + api.MsgUpdate - kindUpdate + api.MsgNote - kindNote + api.MsgAlive - kindAlive + api.MsgRefresh - kindRefresh]struct{}{}
	_ [0]struct{} = [api.OutOk - fine + api.OutDiscard - discarded + api.OutWithdraw - withdrawn]struct{}{}
)

// four1 is an address.
var four1 = api.Addr{Size: 4, B: [16]byte{10, 0, 0, 1}}

// someOpen tells all that an open can.
func someOpen() api.Message {
	return api.Message{Kind: kindOpen, Open: api.Open{AS: 65000, Hold: 90, Id: four1, Families: []api.Family{{Size: 4, Safi: 5}, {Size: 16, Safi: 128}}, Refresh: true}}
}

// someUpdate has rows of each sort.
func someUpdate() api.Message {
	u := update.Empty()
	u.Attrs.Med = 7
	u.Attrs.Path = []api.Segment{{AS: []int{65000, 1}}}
	u.Attrs.Clusters = []api.Addr{four1}
	u.Attrs.Exts = []api.Ext{{0, 2, 3}}
	u.Attrs.Tunnels = []api.Tunnel{{Kind: api.TunnelMldp, Root: four1, Id: []byte{1, 2}}}
	u.Reach = []api.Table{{Size: 4, Safi: 5, Next: four1, M: []api.Mroute{{Kind: api.RouteIntra, From: four1}}}}
	u.Unreach = []api.Table{{Size: 16, Safi: 128, U: []api.Uroute{{Prefix: api.Prefix{Addr: api.Addr{Size: 16}}, Label: 16}}}}
	return api.Message{Kind: kindUpdate, Update: u}
}

func asUpdate(u api.Update) api.Message { return api.Message{Kind: kindUpdate, Update: u} }
func asNote(code, sub int, data ...byte) api.Message {
	return api.Message{Kind: kindNote, Note: api.Note{Code: code, Sub: sub, Data: data}}
}
func asRefresh(size, safi int) api.Message {
	return api.Message{Kind: kindRefresh, Family: api.Family{Size: size, Safi: safi}}
}

// alive is the one of its Kind.
var alive = api.Message{Kind: kindAlive}

// rights are messages that are, of all Kinds, the shortest ones and the longest one too: anew in each call.
func rights() []api.Message {
	return []api.Message{
		alive, someOpen(), someUpdate(), asUpdate(update.Empty()),
		asNote(6, 2), asNote(0, 255, 1, 2, 3), asNote(6, 2, count(most-headSize-2)...),
		asRefresh(4, 5), asRefresh(16, 128),
	}
}

// cat are rows, one behind another, in new memory.
func cat[T any](l ...[]T) []T { return slices.Concat(l...) }

// mark is what each message begins with.
func mark() []byte { return slices.Repeat([]byte{255}, 16) }

// head is one of this length, and Kind.
func head(length int, kind byte) []byte {
	return cat(mark(), []byte{byte(length >> 8), byte(length), kind})
}

// framed is a body with its head.
func framed(kind byte, body ...byte) []byte { return cat(head(headSize+len(body), kind), body) }

// written are messages in bytes, one behind another.
func written(t *testing.T, l ...api.Message) []byte {
	t.Helper()
	var b []byte
	for _, m := range l {
		one, e := message.Bytes(m)
		if e != api.OK {
			t.Fatalf("Bytes(%+v): %v", m, e)
		}
		b = append(b, one...)
	}
	return b
}

// heard are messages that came, all of them in order.
func heard(l ...api.Message) []api.Heard {
	var out []api.Heard
	for _, m := range l {
		out = append(out, api.Heard{Message: m})
	}
	return out
}

// count is a row of so many bytes, none of which is 0.
func count(n int) []byte {
	b := make([]byte, n)
	for i := range b {
		b[i] = byte(1 + i%255)
	}
	return b
}

// tidy is a thing without the rows that are empty, in all depths.
func tidy[T any](one T) T {
	v := reflect.New(reflect.TypeOf(one)).Elem()
	v.Set(reflect.ValueOf(one))
	tidyIn(v)
	return v.Interface().(T)
}

func tidyIn(v reflect.Value) {
	switch v.Kind() {
	case reflect.Struct:
		for i := range v.NumField() {
			tidyIn(v.Field(i))
		}
	case reflect.Slice:
		if v.Len() == 0 {
			v.SetZero()
			return
		}
		l := reflect.MakeSlice(v.Type(), v.Len(), v.Len())
		reflect.Copy(l, v)
		for i := range v.Len() {
			tidyIn(l.Index(i))
		}
		v.Set(l)
	}
}

// equal tells whether two things are, in all depths; rows that are not there are as those that are empty.
func equal[T any](a, b T) bool { return reflect.DeepEqual(tidy(a), tidy(b)) }

// fed is a stream that had these bytes.
func fed(l ...[]byte) *stream.Stream {
	s := stream.New()
	for _, b := range l {
		s.Feed(b)
	}
	return s
}

// wantHeard wants bytes to be messages, with what comes of them.
func wantHeard(t *testing.T, s *stream.Stream, b []byte, want ...api.Heard) {
	t.Helper()
	got := s.Feed(b)
	if len(got) != len(want) {
		t.Fatalf("Feed(%v): %d messages, want %d", b, len(got), len(want))
	}
	for i := range want {
		if !equal(got[i], want[i]) {
			t.Fatalf("Feed(%v): as message %d: %+v, want %+v", b, i, got[i], want[i])
		}
	}
}

// wantWaiting wants a stream to have so many bytes, and not to be broken.
func wantWaiting(t *testing.T, s *stream.Stream, want int) {
	t.Helper()
	n, is := s.Broken()
	if got := s.Waiting(); got != want || is || !equal(n, api.Note{}) {
		t.Fatalf("%d bytes wait, want %d; broken: %v, by %v", got, want, is, n)
	}
}

// wantBroken wants a stream to be broken, by this Note, for good: whatever comes then.
func wantBroken(t *testing.T, s *stream.Stream, code, sub int, data ...byte) {
	t.Helper()
	want := api.Note{Code: code, Sub: sub, Data: data}
	for _, b := range [][]byte{nil, {}, {0}, framed(kindAlive), head(18, 1), make([]byte, 40), framed(kindOpen, make([]byte, 10)...)} {
		if n, is := s.Broken(); !is || !equal(n, want) || s.Waiting() != 0 {
			t.Fatalf("broken: %v, by %v, want %v; %d bytes wait", is, n, want, s.Waiting())
		}
		if l := s.Feed(b); len(l) != 0 {
			t.Fatalf("Feed(%v) of one that is broken: %v", b, l)
		}
	}
}
