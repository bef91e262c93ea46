package message_test

import (
	"fmt"
	"reflect"
	"runtime"
	"slices"
	"testing"

	"vinery/api"
	"vinery/message"
)

// spare is how much room lies behind a row's end.
const spare = 3

// eachRow goes to all rows in a thing, in all depths, their spare room too: those within others first.
func eachRow(v reflect.Value, do func(reflect.Value)) {
	switch v.Kind() {
	case reflect.Struct:
		for i := range v.NumField() {
			eachRow(v.Field(i), do)
		}
	case reflect.Slice:
		whole := v.Slice3(0, v.Cap(), v.Cap())
		for i := range whole.Len() {
			eachRow(whole.Index(i), do)
		}
		do(v)
	}
}

// roomy is a thing in new memory, with spare room behind each row, which is not zero.
func roomy[T any](one T) T {
	v := reflect.New(reflect.TypeOf(one)).Elem()
	v.Set(reflect.ValueOf(one))
	makeRoom(v)
	return v.Interface().(T)
}

func makeRoom(v reflect.Value) {
	switch v.Kind() {
	case reflect.Struct:
		for i := range v.NumField() {
			makeRoom(v.Field(i))
		}
	case reflect.Slice:
		n := v.Len()
		l := reflect.MakeSlice(v.Type(), n+spare, n+spare)
		reflect.Copy(l, v)
		for i := range n {
			makeRoom(l.Index(i))
		}
		for i := range spare {
			fill(l.Index(n+i), 7)
		}
		v.Set(l.Slice3(0, n, n+spare))
	}
}

// fill writes a number all over a thing; its rows get one thing of their own.
func fill(v reflect.Value, n int) {
	switch v.Kind() {
	case reflect.Struct:
		for i := range v.NumField() {
			fill(v.Field(i), n)
		}
	case reflect.Array:
		for i := range v.Len() {
			fill(v.Index(i), n)
		}
	case reflect.Slice:
		v.Set(reflect.MakeSlice(v.Type(), 1, 1))
		fill(v.Index(0), n)
	case reflect.Bool:
		v.SetBool(true)
	case reflect.String:
		v.SetString(fmt.Sprint(n))
	case reflect.Uint8:
		v.SetUint(uint64(n))
	default:
		v.SetInt(int64(n))
	}
}

// whole is a thing as a text, with all spare room.
func whole(one any) string {
	v := reflect.New(reflect.TypeOf(one)).Elem()
	v.Set(reflect.ValueOf(one))
	text := fmt.Sprintf("%+v", one)
	eachRow(v, func(row reflect.Value) {
		text += fmt.Sprintf("; %+v", row.Slice3(0, row.Cap(), row.Cap()).Interface())
	})
	return text
}

// spoil writes all over the rows of a thing, in all depths, their spare room too.
func spoil(one any) {
	v := reflect.New(reflect.TypeOf(one)).Elem()
	v.Set(reflect.ValueOf(one))
	eachRow(v, func(row reflect.Value) {
		for i := range row.Cap() {
			fill(row.Slice3(0, row.Cap(), row.Cap()).Index(i), 99)
		}
	})
}

// answer is what Head or Body tells of bytes.
type answer struct {
	Message api.Message
	Note    api.Note
}

func headAnswer(b []byte) answer {
	_, _, n, _ := message.Head(b)
	return answer{Note: n}
}

// bodyAnswer is of a body of a kind.
func bodyAnswer(kind int) func([]byte) answer {
	return func(b []byte) answer {
		m, _, n := message.Body(kind, b)
		return answer{m, n}
	}
}

// readings are bytes that come to each of the answers, each with the call that reads them.
func readings() (rows [][]byte, calls []func([]byte) answer) {
	add := func(call func([]byte) answer, l ...[]byte) {
		for _, b := range l {
			rows, calls = append(rows, b), append(calls, call)
		}
	}
	for _, m := range rights() {
		b, _ := message.Bytes(m)
		add(headAnswer, b, cat(mark(), []byte{0, 18, 1}), cat(mark(), []byte{16, 1, 1}), cat(mark(), []byte{0, 19, 9}), cat(mark(), []byte{0, 20, 4}), make([]byte, 19))
		add(bodyAnswer(m.Kind), b[headSize:], b[headSize:len(b)-len(b[headSize:])/2], b[headSize-1:], cat(b[headSize:], []byte{1}), nil)
		add(bodyAnswer(9), b)
	}
	add(bodyAnswer(kindOpen), []byte{3, 0, 1, 0, 0, 1, 1, 1, 1, 0}, []byte{4, 0, 1, 0, 1, 1, 1, 1, 1, 0}, openBytes(param(capFamily(families[0]), capFamily(families[0]), capFamily(families[1])), param(capability(9, 1))))
	return rows, calls
}

func TestMessagesAreLeft(t *testing.T) { // P11.4, W6: what is handed in is not changed, its spare room neither
	for i, m := range unlikes() {
		for _, other := range []api.Message{m, {Kind: kindAlive, Open: fullOpen(), Update: fullUpdate(), Note: asNote(1, 1, 1).Note}} {
			in, second := roomy(m), roomy(other)
			was, wasSecond := whole(in), whole(second)
			message.Right(in)
			message.Bytes(in)
			message.Same(in, second)
			message.Same(second, in)
			if now, nowSecond := whole(in), whole(second); now != was || nowSecond != wasSecond {
				t.Errorf("%d: changed were %s, %s: %s, %s", i, was, wasSecond, now, nowSecond)
			}
		}
	}
}

func TestBytesAreLeft(t *testing.T) { // P11.4, W6
	rows, calls := readings()
	for i, b := range rows {
		for n := range len(b) + 1 {
			in := roomy(b[:n])
			was := whole(in)
			calls[i](in)
			if now := whole(in); now != was {
				t.Fatalf("changed was %s: %s", was, now)
			}
		}
	}
}

func TestBytesAnswersNewMemory(t *testing.T) { // P11.4, W6
	for _, m := range unlikes() {
		in := roomy(m)
		was := whole(in)
		b, _ := message.Bytes(in)
		want := slices.Clone(b)
		again, _ := message.Bytes(in)
		spoil(again)
		if now := whole(in); now != was {
			t.Errorf("writing on an answer changed what was handed in: %s, it was %s", now, was)
		}
		spoil(in)
		if !slices.Equal(b, want) {
			t.Errorf("behind writing on what was handed in, and on another answer: %v, want %v", b, want)
		}
	}
}

func TestReadingAnswersNewMemory(t *testing.T) { // P11.4, W6: in all depths
	rows, calls := readings()
	for i, b := range rows {
		want := whole(tidy(calls[i](b)))
		in := roomy(b)
		was := whole(in)
		got, again := calls[i](in), calls[i](in)
		spoil(again)
		if now := whole(in); now != was {
			t.Errorf("writing on an answer changed what was handed in: %s, it was %s", now, was)
		}
		spoil(in)
		if now := whole(tidy(got)); now != want {
			t.Errorf("behind writing on what was handed in, and on another answer: %s, want %s", now, want)
		}
	}
}

func TestReadRowsAreApart(t *testing.T) { // P11.4, W6: no two rows of one answer share memory, with each other or with what was handed in
	rows, calls := readings()
	for i, b := range rows {
		in := roomy(b)
		got := calls[i](in)
		type span struct{ from, to uintptr }
		var taken []span
		take := func(row reflect.Value) {
			s := span{from: row.Pointer(), to: row.Pointer() + uintptr(row.Cap())*row.Type().Elem().Size()}
			for _, other := range taken {
				if s.from < s.to && s.from < other.to && other.from < s.to {
					t.Errorf("of %v: %+v, of which two rows share memory", b, got)
				}
			}
			taken = append(taken, s)
		}
		for _, one := range []any{in, got} {
			eachRow(reflect.ValueOf(one), take)
		}
		runtime.KeepAlive(got)
	}
}
