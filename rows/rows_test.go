package rows_test

import (
	"bytes"
	"slices"
	"testing"

	"vinery/api"
	"vinery/rows"
)

// write writes a word: how long it is, and its bytes; none that is too long.
func write(s string) ([]byte, api.Errno) {
	switch {
	case len(s) > 9:
		return []byte("no bytes"), api.ErrLong
	case s == "wrong":
		return nil, api.ErrArg
	}
	return append([]byte{byte(len(s))}, s...), api.OK
}

// take takes one of at most size bytes.
func take(b []byte, size int) (string, int, api.Errno) {
	switch {
	case size < 0:
		return "", 0, api.ErrArg
	case len(b) == 0 || len(b) < 1+int(b[0]):
		return "no word", 7, api.ErrEnd
	case int(b[0]) > size:
		return "no word", 7, api.ErrForm
	}
	return string(b[1 : 1+b[0]]), 1 + int(b[0]), api.OK
}

func wantRow(t *testing.T, size int, want string, l ...string) {
	t.Helper()
	if b, e := rows.Write(l, write); e != api.OK || string(b) != want {
		t.Errorf("Write(%q): %q, %v, want %q", l, b, e, want)
	}
	if got, e := rows.Read([]byte(want), size, take); e != api.OK || !slices.Equal(got, l) {
		t.Errorf("Read(%q): %q, %v, want %q", want, got, e, l)
	}
}

func TestRows(t *testing.T) {
	wantRow(t, 0, "")
	wantRow(t, 0, "\x00", "")
	wantRow(t, 0, "\x00\x00\x00", "", "", "")
	wantRow(t, 3, "\x03abc\x00\x02de", "abc", "", "de")
	if b, e := rows.Write(nil, write); e != api.OK || len(b) != 0 {
		t.Errorf("Write of none: %q, %v", b, e)
	}
	if l, e := rows.Read(nil, 0, take); e != api.OK || len(l) != 0 {
		t.Errorf("Read of none: %q, %v", l, e)
	}
}

func TestWriteTellsTheFirstError(t *testing.T) {
	for _, c := range []struct {
		l    []string
		want api.Errno
	}{
		{[]string{"wrong", "abc", "0123456789"}, api.ErrArg},
		{[]string{"abc", "0123456789", "wrong"}, api.ErrLong},
		{[]string{"abc", "de", "wrong"}, api.ErrArg},
	} {
		if b, e := rows.Write(c.l, write); e != c.want || len(b) != 0 {
			t.Errorf("Write(%q): %q, %v, want %v", c.l, b, e, c.want)
		}
	}
}

func TestReadTellsTheFirstError(t *testing.T) {
	for _, c := range []struct {
		b    string
		size int
		want api.Errno
	}{
		{"", -1, api.ErrArg}, // also where there is nothing
		{"\x00", -1, api.ErrArg},
		{"\x01", 3, api.ErrEnd},
		{"\x00\x03ab", 3, api.ErrEnd},
		{"\x03abc\x04abcd\x01", 3, api.ErrForm},
		{"\x03abc\x01a\x04abcd", 3, api.ErrForm},
	} {
		if l, e := rows.Read([]byte(c.b), c.size, take); e != c.want || len(l) != 0 {
			t.Errorf("Read(%q, %d): %q, %v, want %v", c.b, c.size, l, e, c.want)
		}
	}
}

func TestRowsAreLeft(t *testing.T) {
	l := append([]string{"abc", "", "de"}, "spare")[:3]
	wasL := slices.Clone(l[:cap(l)])
	one, _ := rows.Write(l, write)
	two, _ := rows.Write(l, write)
	wasB := bytes.Clone(one[:cap(one)])
	if _, e := rows.Read(one, 3, take); e != api.OK {
		t.Fatalf("Read: %v", e)
	}
	clear(two[:cap(two)])
	if !slices.Equal(l[:cap(l)], wasL) || !bytes.Equal(one[:cap(one)], wasB) {
		t.Errorf("changed: %q, %q", l, one)
	}
}

func TestWriteKeepsNoBytes(t *testing.T) {
	b := append([]byte("ab"), "spare"...)[:2]
	same := func([]byte) ([]byte, api.Errno) { return b, api.OK }
	row, _ := rows.Write([][]byte{b}, same)
	clear(b[:cap(b)])
	if string(row) != "ab" {
		t.Errorf("%q", row)
	}
}
