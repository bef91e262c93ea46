package stream_test

import (
	"fmt"
	"reflect"
	"runtime"
	"testing"

	"vinery/api"
	"vinery/stream"
)

// spare is how much room lies behind a row's end.
const spare = 3

// eachRow goes to all rows in a thing, in all depths, their spare room too: those within others first.
func eachRow(v reflect.Value, do func(reflect.Value)) {
	switch v.Kind() {
	case reflect.Struct:
		for i := range v.NumField() {
			eachRow(v.Field(i), do)
		}
	case reflect.Slice:
		whole := v.Slice3(0, v.Cap(), v.Cap())
		for i := range whole.Len() {
			eachRow(whole.Index(i), do)
		}
		do(v)
	}
}

// fill writes a number all over a thing; its rows get one thing of their own.
func fill(v reflect.Value, n int) {
	switch v.Kind() {
	case reflect.Struct:
		for i := range v.NumField() {
			fill(v.Field(i), n)
		}
	case reflect.Array:
		for i := range v.Len() {
			fill(v.Index(i), n)
		}
	case reflect.Slice:
		v.Set(reflect.MakeSlice(v.Type(), 1, 1))
		fill(v.Index(0), n)
	case reflect.Bool:
		v.SetBool(true)
	case reflect.String:
		v.SetString(fmt.Sprint(n))
	case reflect.Uint8:
		v.SetUint(uint64(n))
	default:
		v.SetInt(int64(n))
	}
}

// spoil writes all over the rows of a thing, in all depths, their spare room too.
func spoil(one any) {
	v := reflect.New(reflect.TypeOf(one)).Elem()
	v.Set(reflect.ValueOf(one))
	eachRow(v, func(row reflect.Value) {
		for i := range row.Cap() {
			fill(row.Slice3(0, row.Cap(), row.Cap()).Index(i), 99)
		}
	})
}

// roomy are bytes in new memory, with spare room behind them, which is not zero.
func roomy(b []byte) []byte {
	return append(append(make([]byte, 0, len(b)+spare), b...), count(spare)...)[:len(b)]
}

// whole are bytes and their spare room, as a text.
func whole(b []byte) string { return fmt.Sprint(len(b), b[:cap(b)]) }

// cuts are pieces of a row that are this long, the last one but as long as it can be.
func cuts(b []byte, n int) [][]byte {
	var out [][]byte
	for len(b) > n {
		out, b = append(out, b[:n]), b[n:]
	}
	return append(out, b)
}

// pieces are the bytes of messages, each in room of its own, cut in several ways.
func pieces(t *testing.T, tail []byte) [][][]byte {
	t.Helper()
	b := cat(written(t, rights()...), tail)
	out := [][][]byte{cuts(b, len(b))}
	for _, n := range []int{1, 18, 19, 20, 100, 4096} {
		out = append(out, cuts(b, n))
	}
	for _, l := range out {
		for i := range l {
			l[i] = roomy(l[i])
		}
	}
	return out
}

func TestBytesAreLeft(t *testing.T) { // P12.3, W6: what is handed in is not changed, its spare room neither: not then, not later
	for _, f := range faults() {
		for _, l := range pieces(t, f.bytes) {
			s := stream.New()
			var was []string
			for _, b := range l {
				was = append(was, whole(b))
				spoil(s.Feed(b))
				n, _ := s.Broken()
				spoil(n)
			}
			for i, b := range l {
				if now := whole(b); now != was[i] {
					t.Fatalf("changed was %s: %s", was[i], now)
				}
			}
		}
	}
}

func TestBytesAreNotKept(t *testing.T) { // P12.3, W6: writing on what was handed in changes nothing of what comes, or came
	for _, f := range faults() {
		for _, l := range pieces(t, f.bytes) {
			s := stream.New()
			var got []api.Heard
			for _, b := range l {
				got = append(got, s.Feed(b)...)
				spoil(b)
			}
			if !equal(got, heard(rights()...)) {
				t.Fatalf("cut to %d pieces: %+v", len(l), got)
			}
			wantFault(t, s, f)
		}
	}
}

func TestAnswersAreNewMemory(t *testing.T) { // P12.3, W6: writing on what was answered changes nothing of what comes, or came: in all depths
	for _, f := range faults() {
		for _, l := range pieces(t, f.bytes) {
			s := stream.New()
			var got []api.Heard
			for _, b := range l {
				one := s.Feed(b)
				got = append(got, tidy(one)...) // in rows of its own
				spoil(one)
			}
			if !equal(got, heard(rights()...)) {
				t.Fatalf("cut to %d pieces: %+v", len(l), got)
			}
			n, _ := s.Broken()
			spoil(n)
			wantFault(t, s, f)
		}
	}
}

func TestEarlierAnswersStay(t *testing.T) { // P12.3: whatever is handed in behind them, to this stream or another one
	for _, f := range faults() {
		for _, l := range pieces(t, f.bytes) {
			s := stream.New()
			var got []api.Heard
			for _, b := range l {
				got = append(got, s.Feed(b)...)
				fed(b, f.bytes)
			}
			n, _ := s.Broken()
			for _, b := range l {
				s.Feed(b)
			}
			if !equal(got, heard(rights()...)) || !equal(n, f.note) {
				t.Fatalf("cut to %d pieces: %+v, broken by %v", len(l), got, n)
			}
		}
	}
}

func TestAnswersAreApart(t *testing.T) { // P12.3, W6: no two rows of all that is answered share memory, with each other or with what was handed in
	for _, f := range faults() {
		b := roomy(cat(written(t, rights()...), f.bytes))
		s := stream.New()
		first := s.Feed(b[:300])
		second := s.Feed(b[300:])
		one, _ := s.Broken()
		other, _ := s.Broken()
		type span struct{ from, to uintptr }
		var taken []span
		take := func(row reflect.Value) {
			s := span{from: row.Pointer(), to: row.Pointer() + uintptr(row.Cap())*row.Type().Elem().Size()}
			for _, other := range taken {
				if s.from < s.to && s.from < other.to && other.from < s.to {
					t.Errorf("%s: two rows share memory", f.name)
				}
			}
			taken = append(taken, s)
		}
		if len(first) == 0 || len(second) == 0 {
			t.Fatalf("%d messages, then %d", len(first), len(second))
		}
		for _, l := range []any{b, first, second, one, other} {
			eachRow(reflect.ValueOf(l), take)
		}
		runtime.KeepAlive([]any{b, first, second, one, other})
	}
}

func TestMemoryOfMessagesGoes(t *testing.T) { // P12.3: no stream keeps what it had but what waits
	const n, size = 200, 1 << 20
	note := written(t, asNote(6, 2, count(4000)...))
	var b []byte
	for len(b) < size {
		b = append(b, note...)
	}
	before := used()
	var kept []*stream.Stream
	for i := range n {
		tail := note[:7]
		if i%2 > 0 {
			tail = make([]byte, headSize)
		}
		kept = append(kept, fed(b, tail))
	}
	if now := used(); now > before+n*size/20 {
		t.Errorf("%d streams keep %d bytes", n, now-before)
	}
	runtime.KeepAlive(kept)
}

// used is how many bytes of memory are.
func used() uint64 {
	runtime.GC()
	var m runtime.MemStats
	runtime.ReadMemStats(&m)
	return m.HeapAlloc
}
