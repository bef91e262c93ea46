package digits_test

import (
	"bytes"
	"encoding/hex"
	"math/rand/v2"
	"strconv"
	"strings"
	"testing"

	"vinery/digits"
)

// odd are words that are neither a number of any base nor bytes.
var odd = []string{
	" ", "-1", "+1", "-0", " 1", "1 ", "1\n", "\x00", "1\x00", "1_0", "0x1", "1.0", "1,0", "A", "F", "AB", "g", "1g", "g1", "z0", "/", ":", "@", "`",
	"é", "é0", "0é", "１", "1１", "٣", "²", "ａ", "İ", "\u0131", "\u0130\u0130", "\xff", "0\xff", "\xff0", "\xc3", "\xe2\x82", "\xed\xa0\x80", "\xc0\xb1", "\uFFFD",
}

func TestNumber(t *testing.T) {
	for _, c := range []struct {
		s         string
		base, top int
		want      int
		ok        bool
	}{
		{"0", 10, 0, 0, true},
		{"1", 10, 0, 0, false},
		{"9", 10, 9, 9, true},
		{"10", 10, 9, 0, false},
		{"007", 10, 7, 7, true}, // zeros ahead
		{"a", 10, 99, 0, false},
		{"a", 16, 99, 10, true},
		{"f", 16, 15, 15, true},
		{"f", 16, 14, 0, false},
		{"ffff", 16, 65535, 65535, true},
		{"10000", 16, 65535, 0, false},
		{"4294967295", 10, 1<<32 - 1, 1<<32 - 1, true},
		{"4294967296", 10, 1<<32 - 1, 0, false},
		{"18446744073709551617", 10, 1<<32 - 1, 0, false}, // 1 in 64 bits
		{"", 10, 9, 0, false},
		{strings.Repeat("0", 1<<16) + "5", 10, 9, 5, true},
		{strings.Repeat("5", 1<<16), 10, 9, 0, false},
	} {
		if n, ok := digits.Number(c.s, c.base, c.top); n != c.want || ok != c.ok {
			t.Errorf("%.30q: %d, %v", c.s, n, ok)
		}
	}
	for _, s := range odd {
		for _, base := range []int{10, 16} {
			if n, ok := digits.Number(s, base, 1<<32-1); n != 0 || ok {
				t.Errorf("%q: %d, %v", s, n, ok)
			}
		}
	}
}

func TestNumberAsTheLibrarys(t *testing.T) {
	r := rand.New(rand.NewPCG(1, 2))
	for range 20000 {
		base := []int{10, 16}[r.IntN(2)]
		n := int(r.Uint64() >> (1 + r.IntN(63)))
		top := max(1, min(n+r.IntN(3)-1, 1<<32-1))
		got, ok := digits.Number(strconv.FormatInt(int64(n), base), base, top)
		if ok != (n <= top) || ok && got != n || !ok && got != 0 {
			t.Fatalf("%d in base %d, no greater than %d: %d, %v", n, base, top, got, ok)
		}
	}
}

func TestBytesAndText(t *testing.T) {
	r := rand.New(rand.NewPCG(3, 4))
	for n := range 300 {
		b := make([]byte, n)
		for i := range b {
			b[i] = byte(r.IntN(256))
		}
		was := bytes.Clone(b)
		s := digits.Text(b)
		if s != hex.EncodeToString(was) || !bytes.Equal(b, was) {
			t.Fatalf("%v: %q", was, s)
		}
		got, ok := digits.Bytes(s)
		if !ok || !bytes.Equal(got, was) {
			t.Fatalf("%q: %v, %v", s, got, ok)
		}
		clear(b)
		clear(got)
		if s != hex.EncodeToString(was) {
			t.Fatalf("kept: %q", s)
		}
	}
	if b, ok := digits.Bytes(""); !ok || len(b) != 0 {
		t.Errorf("no digits: %v, %v", b, ok)
	}
}

func TestBytesOfEachPair(t *testing.T) {
	for high := range 256 {
		for low := range 256 {
			s := string([]byte{byte(high), byte(low)})
			their, err := hex.DecodeString(s)
			fine := err == nil && s == strings.ToLower(s)
			b, ok := digits.Bytes("07" + s)
			if ok != fine || ok && !bytes.Equal(b, append([]byte{7}, their...)) || !ok && b != nil {
				t.Fatalf("%q: %v, %v", s, b, ok)
			}
		}
	}
}

func TestNoBytes(t *testing.T) {
	for _, s := range append(odd, "0", "012", "00000", "0g", "abcdeF") {
		for _, s := range []string{s, s + "0", "0" + s, "00" + s, s + "00", s + s} {
			their, err := hex.DecodeString(s)
			if b, ok := digits.Bytes(s); ok != (err == nil && s == strings.ToLower(s)) || ok && !bytes.Equal(b, their) || !ok && b != nil {
				t.Errorf("%q: %v, %v", s, b, ok)
			}
		}
	}
}
