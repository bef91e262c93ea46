package rd_test

import (
	"strconv"
	"strings"
	"testing"

	"vinery/api"
	"vinery/rd"
)

var (
	_ func(string) (api.RD, api.Errno) = rd.Parse
	_ func(api.RD) string              = rd.Text
)

// wantText holds one and its text against each other, both ways.
func wantText(t *testing.T, d api.RD, s string) {
	t.Helper()
	if got := rd.Text(d); got != s {
		t.Errorf("Text of %v: %q, want %q", d, got, s)
	}
	if got, e := rd.Parse(s); e != api.OK || got != d {
		t.Errorf("Parse(%q): %v, %v, want %v", s, got, e, d)
	}
}

// wantNoText wants a text to be refused.
func wantNoText(t *testing.T, s string) {
	t.Helper()
	if d, e := rd.Parse(s); e != api.ErrForm || d != (api.RD{}) {
		t.Errorf("Parse(%.60q): %v, %v, want ErrForm", s, d, e)
	}
}

func TestText(t *testing.T) { // P3.2, P3.4
	for _, c := range []struct {
		d    api.RD
		text string
	}{
		{api.RD{}, "0:0:0"},
		{api.RD{0, 1}, "1:0.0.0.0:0"},
		{api.RD{0, 2}, "2:0:0"},
		{api.RD{0, 0, 253, 232, 0, 0, 0, 77}, "0:65000:77"},
		{api.RD{0, 0, 255, 255, 255, 255, 255, 255}, "0:65535:4294967295"},
		{api.RD{0, 0, 0, 10, 0, 1, 0, 0}, "0:10:65536"},
		{api.RD{0, 1, 10, 0, 0, 1, 0, 7}, "1:10.0.0.1:7"},
		{api.RD{0, 1, 255, 255, 255, 255, 255, 255}, "1:255.255.255.255:65535"},
		{api.RD{0, 1, 0, 0, 0, 1, 128, 0}, "1:0.0.0.1:32768"},
		{api.RD{0, 1, 224, 0, 0, 1, 0, 100}, "1:224.0.0.1:100"},
		{api.RD{0, 2, 250, 86, 234, 0, 0, 7}, "2:4200000000:7"},
		{api.RD{0, 2, 255, 255, 255, 255, 255, 255}, "2:4294967295:65535"},
		{api.RD{0, 2, 128, 0, 0, 0, 127, 255}, "2:2147483648:32767"},
	} {
		wantText(t, c.d, c.text)
	}
}

func TestTextNotKnown(t *testing.T) { // P3.2, P3.4
	for _, c := range []struct {
		d    api.RD
		text string
	}{
		{api.RD{0, 9, 0, 0, 0, 0, 0, 1}, "?:0009000000000001"},
		{api.RD{0, 3}, "?:0003000000000000"},
		{api.RD{1, 0}, "?:0100000000000000"},
		{api.RD{1, 1, 10, 0, 0, 1, 0, 7}, "?:01010a0000010007"},
		{api.RD{128, 2}, "?:8002000000000000"},
		{api.RD{255, 255, 255, 255, 255, 255, 255, 255}, "?:ffffffffffffffff"},
		{api.RD{0x01, 0x23, 0x45, 0x67, 0x89, 0xab, 0xcd, 0xef}, "?:0123456789abcdef"},
		{api.RD{0xfe, 0xdc, 0xba, 0x98, 0x76, 0x54, 0x32, 0x10}, "?:fedcba9876543210"},
	} {
		wantText(t, c.d, c.text)
	}
}

func TestTextOfEachKind(t *testing.T) { // P3.2, P3.4: just those that are known have a number there
	for kind := range 1 << 16 {
		s := rd.Text(api.RD{byte(kind >> 8), byte(kind), 1, 2, 3, 4, 5, 6})
		if kind <= 2 != strings.HasPrefix(s, strconv.Itoa(kind)+":") || kind > 2 != strings.HasPrefix(s, "?:") {
			t.Fatalf("%d: %q", kind, s)
		}
	}
}

func TestTextNumbers(t *testing.T) { // P3.2, P3.4
	for _, high := range edges {
		for _, low := range edges {
			h, l := strconv.Itoa(high), strconv.Itoa(low)
			if high <= top2 {
				wantText(t, make1(t, 0, high, low), "0:"+h+":"+l)
			} else {
				wantNoText(t, "0:"+h+":"+l)
			}
			if low <= top2 {
				wantText(t, make1(t, 2, high, low), "2:"+h+":"+l)
			} else {
				wantNoText(t, "2:"+h+":"+l)
			}
		}
	}
}

func TestTextAddresses(t *testing.T) { // P3.2, P3.4: each number at each place
	for place := range 4 {
		for n := range 256 {
			words, d := []string{"7", "70", "170", "0"}, api.RD{0, 1, 7, 70, 170, 0, 1, 0}
			words[place], d[2+place] = strconv.Itoa(n), byte(n)
			wantText(t, d, "1:"+strings.Join(words, ".")+":256")
		}
	}
}

// oddWords are no numbers, or not in the form of one.
var oddWords = []string{
	"", " ", "-1", "+1", "-0", "+0", " 1", "1 ", "\t1", "1\n", "1\x00", "\x00", "\x01",
	"00", "01", "07", "065", "0001", "00000000000000000000000000000001",
	"a", "f", "A", "F", "1a", "a1", "0x1", "0X1", "0b1", "0o7", "1e1", "1E1", "1_0", "1.0", "1,0", "1/8", "?", "*", "#1", "none",
	"1.2.3.4", "0.0.0.0", "0.0.0.1", "10.0.0.1", "::", "::1", "2001:db8::", "1.2.3", "1.2.3.4.5",
	"4294967296", "4294967297", "8589934592", "18446744073709551615", "18446744073709551616", "18446744073709551617", "340282366920938463463374607431768211456", "340282366920938463463374607431768211457",
	"٣", "１", "1１", "İ", "ı", "1ı", "²", "½", "é", "\u013a", "\xff", "1\xff", "\xff1", "\xc3", "\xe2\x82", "\xed\xa0\x80", "\xf0\x9f\x8d", "\xc0\xb1", "\xba", "\uFFFD", "\ufeff1",
}

func TestParseOddNumbers(t *testing.T) { // P3.2: in the place of each number
	for _, word := range oddWords {
		for _, head := range []string{"0", "2"} {
			wantNoText(t, head+":"+word+":1")
			wantNoText(t, head+":1:"+word)
			wantNoText(t, head+":"+word+":"+word)
		}
		wantNoText(t, "1:10.0.0.1:"+word)
		for _, tail := range []string{":1:1", ":10.0.0.1:1", ":0:0"} { // and of the kind
			wantNoText(t, word+tail)
		}
	}
	for _, tail := range []string{":65536", ":65537", ":131072", ":4294967295"} { // where it has two bytes
		wantNoText(t, "1:10.0.0.1"+tail)
		wantNoText(t, "2:1"+tail)
		wantNoText(t, "0"+tail+":1")
	}
}

func TestParseOddAddresses(t *testing.T) { // P3.2
	for _, word := range []string{
		"", "0", "1", "7", "65535", "167772161", "4294967295", // a number
		"1.2.3", "1.2.3.4.5", "1.2.3.", ".1.2.3", "1..2.3", "256.0.0.1", "10.0.0.256", "010.0.0.1", "10.0.0.01", "10.00.0.1", "-1.0.0.1", "+1.0.0.1", " 10.0.0.1", "10.0.0.1 ", "10.0.0.1/32", "10,0,0,1", "a.b.c.d", "0xa.0.0.1", "１.2.3.4", "1.2.3.é", "1.2.3.\xff", "\xff",
		"::", "::1", "2001:db8::", "::ffff:1.2.3.4", "1:2:3:4:5:6:7:8", "[::1]", "0a000001", "10.0.0.1.", "localhost",
	} {
		wantNoText(t, "1:"+word+":7")
	}
	for _, kind := range []string{"0", "2", "3", "?", ""} {
		wantNoText(t, kind+":10.0.0.1:7")
		wantNoText(t, kind+":10.0.0.1:10.0.0.1")
	}
	wantNoText(t, "1:10.0.0.1:10.0.0.1")
	wantNoText(t, "1:7:10.0.0.1")
}

func TestParseKinds(t *testing.T) { // P3.2
	for _, kind := range []string{"3", "4", "9", "10", "12", "20", "255", "256", "258", "65535", "65536", "65537", "4294967296", "4294967298", "-1", "-2", "+1", "00", "01", "02", "1.", "0x0", "a", "A", "??", "?0", "0?", "é", "\xff", "？", ""} {
		for _, tail := range []string{":0:0", ":1:1", ":10.0.0.1:7", ":0009000000000001", ":"} {
			wantNoText(t, kind+tail)
		}
	}
}

func TestParseForms(t *testing.T) { // P3.2
	for _, s := range []string{
		"", " ", ":", "::", ":::", "0", "1", "2", "?", "0:", "0::", "0:::", "0:1", "0:1:", "0::1", ":0:1", "::1", ":1:1", "0:1:2:", ":0:1:2", "0:1::2", "0::1:2", "0:1:2:3", "0:0:0:0", "1:10.0.0.1", "1:10.0.0.1:", "1::7", "1:10.0.0.1:7:7", "1:10.0.0.1:7:", "2:1", "2:1:1:1", "2:", "1:", "0:0:0:", "0:0:0\n", "\n0:0:0", " 0:0:0", "0:0:0 ", "0: 0:0", "0:0 :0", "0:0:0\x00", "\x000:0:0", "0;0;0", "0.0.0", "0,0,0", "0/0/0", "0 0 0", "0-0-0", "65000:77", "10.0.0.1:7", "rt:0:65000:77", "RD:0:1:1", "[0:0:0]", "0：0：0", "é:é:é", "\xff:\xff:\xff", "0\u013a0\u013a0", "0\xba0\xba0", "\ufeff0:0:0", "0:0:0\xff", "0:0:0é", "none", "0:00:0", "00:0:0", "0:0:00",
		"0:065:1", "0:65536:0",
	} {
		wantNoText(t, s)
	}
}

func TestParseNotKnown(t *testing.T) { // P3.2: the texts that are like those of one that is not known
	for _, s := range []string{
		"?:", "?", "?:0", "?:00", "?:0009", "?:000900000000000", "?:00090000000000011", "?:000900000000000100", "?:00090000000000010009000000000001", // too few, too many
		"?:0000000000000000", "?:0000000000000001", "?:0000fde80000004d", "?:00010a0000010007", "?:00010000000000ff", "?:0002000000000007", "?:0002ffffffffffff", // those of known ones
		"?:000900000000000A", "?:FFFFFFFFFFFFFFFF", "?:Ffffffffffffffff", "?:fffffffffffffffF", "?:000900000000000g", "?:g009000000000001", "?:000900000000000/", "?:000900000000000:", "?:00090000:00000001", "?:0009:0:1", "?:9:0:1", "?:9", "?:0009000000000001:", "?::0009000000000001", "?:0009000000000001:1", ":?:0009000000000001", "?:?:0009000000000001",
		"?0009000000000001", "0009000000000001", ":0009000000000001", "0:0009000000000001", "3:0003000000000000", "9:0009000000000001", "?:0x09000000000001", "?:+009000000000001", "?:-009000000000001", "? :0009000000000001", "?: 009000000000001", "?:000900000000001 ", "?:0009000000000001\n", "\n?:0009000000000001", "?:0009000000000001 ", "?:000900000000000\x00", "?:00 09 00 00 00 00 00 01", "?:00.09.00.00.00.00.00.01",
		"?:000900000000000é", "?:00090000000000é", "?:é00900000000001", "?:éééééééé", "?:00090000000000\xff\xff", "?:\xff009000000000001", "?:000900000000000１", "?:0009000000000１", "？:0009000000000001", "?：0009000000000001", "¿:0009000000000001", "\xff:0009000000000001", "!:0009000000000001", "*:0009000000000001",
	} {
		wantNoText(t, s)
	}
	for place := range 16 { // each of the digits
		for _, word := range []string{"g", "A", "F", "é", "\xff", " ", ":", "", "00", "/", "`", "@"} {
			digits := strings.Split("00ff5a3c12345678", "")
			digits[place] = word
			wantNoText(t, "?:"+strings.Join(digits, ""))
		}
	}
}

func TestParseLong(t *testing.T) { // W1, P3.2: texts of any length end
	for _, piece := range []string{"0", "1", "9", "f", "0:", ":", ".", "1.", "?", "?:", "é", "\xff", " ", "-", "10.0.0.1:"} {
		long := strings.Repeat(piece, 1<<16)
		for _, s := range []string{long, "0:" + long, "0:" + long + ":1", "0:1:" + long + "1", "0:1:1" + long, "1:" + long + ":7", "1:10.0.0.1:" + long + "7", "2:1:1:" + long, "?:" + long, "?:0009000000000001" + long, long + ":1:1", long + "0:1:1"} {
			wantNoText(t, s)
		}
	}
}

func TestTextIsKept(t *testing.T) { // W6: nothing is kept, and what was told stays
	b := []byte("0:65000:77")
	d, _ := rd.Parse(string(b))
	one := rd.Text(d)
	clear(b)
	was := d
	clear(d[:])
	if one != "0:65000:77" || rd.Text(was) != one || rd.Text(d) != "0:0:0" {
		t.Errorf("%q, %q, %q", one, rd.Text(was), rd.Text(d))
	}
	again, _ := rd.Parse(one)
	if again != was {
		t.Errorf("%v, %v", again, was)
	}
}
