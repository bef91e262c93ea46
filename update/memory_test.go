package update_test

import (
	"fmt"
	"reflect"
	"runtime"
	"slices"
	"testing"

	"vinery/api"
	"vinery/update"
)

// spare is how much room lies behind a row's end.
const spare = 3

// eachRow goes to all rows in a thing, in all depths, their spare room too: those within others first.
func eachRow(v reflect.Value, do func(reflect.Value)) {
	switch v.Kind() {
	case reflect.Struct:
		for i := range v.NumField() {
			eachRow(v.Field(i), do)
		}
	case reflect.Slice:
		whole := v.Slice3(0, v.Cap(), v.Cap())
		for i := range whole.Len() {
			eachRow(whole.Index(i), do)
		}
		do(v)
	}
}

// roomy is a thing in new memory, with spare room behind each row, which is not zero.
func roomy[T any](one T) T {
	v := reflect.New(reflect.TypeOf(one)).Elem()
	v.Set(reflect.ValueOf(one))
	makeRoom(v)
	return v.Interface().(T)
}

func makeRoom(v reflect.Value) {
	switch v.Kind() {
	case reflect.Struct:
		for i := range v.NumField() {
			makeRoom(v.Field(i))
		}
	case reflect.Slice:
		n := v.Len()
		l := reflect.MakeSlice(v.Type(), n+spare, n+spare)
		reflect.Copy(l, v)
		for i := range n {
			makeRoom(l.Index(i))
		}
		for i := range spare {
			fill(l.Index(n+i), 7)
		}
		v.Set(l.Slice3(0, n, n+spare))
	}
}

// fill writes a number all over a thing; its rows get one thing of their own.
func fill(v reflect.Value, n int) {
	switch v.Kind() {
	case reflect.Struct:
		for i := range v.NumField() {
			fill(v.Field(i), n)
		}
	case reflect.Array:
		for i := range v.Len() {
			fill(v.Index(i), n)
		}
	case reflect.Slice:
		v.Set(reflect.MakeSlice(v.Type(), 1, 1))
		fill(v.Index(0), n)
	case reflect.Bool:
		v.SetBool(true)
	case reflect.String:
		v.SetString(fmt.Sprint(n))
	case reflect.Uint8:
		v.SetUint(uint64(n))
	default:
		v.SetInt(int64(n))
	}
}

// whole is a thing as a text, with all spare room.
func whole(one any) string {
	v := reflect.New(reflect.TypeOf(one)).Elem()
	v.Set(reflect.ValueOf(one))
	text := fmt.Sprintf("%+v", one)
	eachRow(v, func(row reflect.Value) {
		text += fmt.Sprintf("; %+v", row.Slice3(0, row.Cap(), row.Cap()).Interface())
	})
	return text
}

// spoil writes all over the rows of a thing, in all depths, their spare room too.
func spoil(one any) {
	v := reflect.New(reflect.TypeOf(one)).Elem()
	v.Set(reflect.ValueOf(one))
	eachRow(v, func(row reflect.Value) {
		for i := range row.Cap() {
			fill(row.Slice3(0, row.Cap(), row.Cap()).Index(i), 99)
		}
	})
}

// bodies are such as come to each of the outcomes, with tables in each place.
func bodies() [][]byte {
	f := families()
	wrong, twice, unknown := raw(0, 4, 1), raw(128, 4, 0, 0, 0, 9), raw(64, 77)
	var l [][]byte
	for i := range f {
		re, un := raw(optional, reach, reached(f[i], six1)...), raw(optional, unreach, withdrawn(f[(i+1)%4])...)
		other := raw(optional, unreach, 0, 1, 1, 9, 9)
		for _, attrs := range [][]byte{cat(someBytes, re, un), cat(un, re, least), cat(least, wrong, re, un), cat(wrong, un), cat(someBytes, twice, re, un), cat(least, re, other), cat(least, re, un, unknown), un, cat(re, re)} {
			l = append(l, body(attrs), cat([]byte{0, 2, 5, 6}, body(attrs)[2:], []byte{1, 2, 3}))
		}
	}
	return append(l, fullBytes(), []byte{0, 0, 0, 0}, []byte{0, 0, 0, 3, 128, 15, 0}, nil)
}

func TestUpdatesAreLeft(t *testing.T) { // P10.3, W6: what is handed in is not changed, its spare room neither
	for i, u := range unlikes() {
		in, second := roomy(u), roomy(full())
		was, wasSecond := whole(in), whole(second)
		update.Right(in)
		update.Bytes(in)
		update.Same(in, second)
		update.Same(second, in)
		if now, nowSecond := whole(in), whole(second); now != was || nowSecond != wasSecond {
			t.Errorf("%d: changed were %s, %s: %s, %s", i, was, wasSecond, now, nowSecond)
		}
	}
}

func TestBodiesAreLeft(t *testing.T) { // P10.3, W6
	for _, b := range bodies() {
		for n := range len(b) + 1 {
			in := roomy(b[:n])
			was := whole(in)
			update.Parse(in)
			if now := whole(in); now != was {
				t.Fatalf("Parse changed %s: %s", was, now)
			}
		}
	}
}

func TestBytesAnswersNewMemory(t *testing.T) { // P10.3, W6
	for _, u := range unlikes() {
		in := roomy(u)
		was := whole(in)
		b, _ := update.Bytes(in)
		want := slices.Clone(b)
		again, _ := update.Bytes(in)
		spoil(again)
		if now := whole(in); now != was {
			t.Errorf("writing on an answer changed what was handed in: %s, it was %s", now, was)
		}
		spoil(in)
		if !slices.Equal(b, want) {
			t.Errorf("behind writing on what was handed in, and on another answer: %v, want %v", b, want)
		}
	}
}

func TestParseAnswersNewMemory(t *testing.T) { // P10.3, W6: in all depths
	type answer struct {
		Update api.Update
		Note   api.Note
	}
	for _, b := range bodies() {
		parse := func(b []byte) answer {
			u, _, n := update.Parse(b)
			return answer{u, n}
		}
		want := whole(tidy(parse(b)))
		in := roomy(b)
		was := whole(in)
		got, again := parse(in), parse(in)
		spoil(again)
		if now := whole(in); now != was {
			t.Errorf("writing on an answer changed what was handed in: %s, it was %s", now, was)
		}
		spoil(in)
		if now := whole(tidy(got)); now != want {
			t.Errorf("behind writing on what was handed in, and on another answer: %s, want %s", now, want)
		}
	}
}

func TestParsedRowsAreApart(t *testing.T) { // P10.3, W6: no two rows of one answer share memory, with each other or with what was handed in
	for _, b := range bodies() {
		in := roomy(b)
		u, _, note := update.Parse(in)
		type span struct{ from, to uintptr }
		var taken []span
		take := func(row reflect.Value) {
			s := span{from: row.Pointer(), to: row.Pointer() + uintptr(row.Cap())*row.Type().Elem().Size()}
			for _, other := range taken {
				if s.from < s.to && s.from < other.to && other.from < s.to {
					t.Errorf("Parse(%v): %+v, of which two rows share memory", b, u)
				}
			}
			taken = append(taken, s)
		}
		for _, one := range []any{in, u, note} {
			eachRow(reflect.ValueOf(one), take)
		}
		runtime.KeepAlive(u)
	}
}

func TestEmptyAnswersNewMemory(t *testing.T) { // P10.3
	u := update.Empty()
	u.Attrs.Med, u.Attrs.Pref = 7, 7
	u.Reach = append(u.Reach, api.Table{})
	if !equal(update.Empty(), api.Update{Attrs: nothing()}) {
		t.Errorf("Empty(): %+v", update.Empty())
	}
}
