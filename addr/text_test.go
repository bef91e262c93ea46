package addr_test

import (
	"strconv"
	"strings"
	"testing"

	"vinery/addr"
	"vinery/api"
)

var (
	_ func(string) (api.Addr, api.Errno) = addr.Parse
	_ func(api.Addr) string              = addr.Text
)

// wantText holds an address and its text against each other, both ways.
func wantText(t *testing.T, a api.Addr, s string) {
	t.Helper()
	if got := addr.Text(a); got != s {
		t.Errorf("Text of %v: %q, want %q", a, got, s)
	}
	if got, e := addr.Parse(s); e != api.OK || got != a {
		t.Errorf("Parse(%q): %v, %v, want %v", s, got, e, a)
	}
}

// wantNoText wants a text to be refused.
func wantNoText(t *testing.T, s string) {
	t.Helper()
	if a, e := addr.Parse(s); e != api.ErrForm || a != (api.Addr{}) {
		t.Errorf("Parse(%.60q): %v, %v, want ErrForm", s, a, e)
	}
}

func TestTextOfNone(t *testing.T) { // P2.2
	wantText(t, api.Addr{}, "")
}

func TestTextOfWrong(t *testing.T) { // P2.2
	for _, a := range wrong() {
		if s := addr.Text(a); s != "" {
			t.Errorf("%v: %q", a, s)
		}
	}
}

func TestTextFour(t *testing.T) { // P2.2, P2.7: each number at each place
	wantText(t, v4(192, 0, 2, 1), "192.0.2.1")
	wantText(t, v4(0, 0, 0, 0), "0.0.0.0")
	wantText(t, full(4), "255.255.255.255")
	for place := range 4 {
		for n := range 256 {
			words := []string{"7", "70", "170", "0"}
			a := v4(7, 70, 170, 0)
			words[place], a.B[place] = strconv.Itoa(n), byte(n)
			wantText(t, a, strings.Join(words, "."))
		}
	}
}

func TestTextSix(t *testing.T) { // P2.2, P2.7: where the two colons stand
	for _, c := range []struct {
		a    api.Addr
		text string
	}{
		{v6(), "::"},
		{v6(1), "1::"},
		{v6(0, 0, 0, 0, 0, 0, 0, 1), "::1"},
		{v6(0, 1), "0:1::"}, // a lone 0
		{v6(0, 0, 1), "0:0:1::"},
		{v6(0, 0, 0, 0, 1), "::1:0:0:0"},
		{v6(0, 0, 0, 1), "0:0:0:1::"},
		{v6(0, 0, 1, 2, 3, 4, 5, 6), "::1:2:3:4:5:6"},
		{v6(1, 2, 3, 0, 0, 4, 5, 6), "1:2:3::4:5:6"},
		{v6(1, 2, 3, 4, 5, 6), "1:2:3:4:5:6::"},
		{v6(1, 0, 0, 0, 0, 0, 0, 2), "1::2"},
		{v6(0, 1, 2, 3, 4, 5, 6, 7), "0:1:2:3:4:5:6:7"},
		{v6(1, 2, 3, 4, 5, 6, 7), "1:2:3:4:5:6:7:0"},
		{v6(1, 0, 2, 0, 3, 0, 4), "1:0:2:0:3:0:4:0"},
		{v6(0, 1, 0, 2, 0, 3, 0, 4), "0:1:0:2:0:3:0:4"},
		{v6(1, 0, 2, 3, 4, 5, 6, 7), "1:0:2:3:4:5:6:7"},
		{v6(1, 0, 0, 2, 0, 0, 3, 4), "1::2:0:0:3:4"}, // two rows of one length: the first
		{v6(0, 0, 1, 2, 3, 4), "::1:2:3:4:0:0"},
		{v6(0, 0, 1, 0, 0, 1), "::1:0:0:1:0:0"}, // three
		{v6(0, 0, 1, 0, 0, 1, 1, 1), "::1:0:0:1:1:1"},
		{v6(1, 0, 0, 2, 0, 0, 0, 3), "1:0:0:2::3"}, // the second one is longer
		{v6(1, 0, 0, 0, 2, 0, 0, 3), "1::2:0:0:3"}, // the first one is
		{v6(0, 0, 0, 1, 1), "::1:1:0:0:0"},
		{v6(0, 0, 1, 1), "0:0:1:1::"},
		{v6(0, 1, 1, 0, 0, 1, 0, 1), "0:1:1::1:0:1"},
		{v6(1, 2, 3, 4, 5, 6, 7, 8), "1:2:3:4:5:6:7:8"},
		{full(16), "ffff:ffff:ffff:ffff:ffff:ffff:ffff:ffff"},
		{v6(0x2001, 0xdb8), "2001:db8::"},
		{v6(0xabcd, 0xef01, 0x2345, 0x6789, 0xa, 0xbc, 0xdef, 0xfedc), "abcd:ef01:2345:6789:a:bc:def:fedc"},
		{v6(0x1000, 0x100, 0x10, 1, 0xf000, 0xf00, 0xf0, 0xf), "1000:100:10:1:f000:f00:f0:f"},
		{v6(0, 0, 0, 0, 0, 0xffff, 0x102, 0x304), "::ffff:102:304"}, // no points
		{v6(0, 0, 0, 0, 0, 0, 0x102, 0x304), "::102:304"},
	} {
		wantText(t, c.a, c.text)
	}
}

func TestTextSixNumbers(t *testing.T) { // P2.2, P2.7: each number
	for n := 1; n < 1<<16; n++ {
		wantText(t, v6(1, 2, n, 4, 5, 6, 7, 8), "1:2:"+strconv.FormatInt(int64(n), 16)+":4:5:6:7:8")
	}
}

func TestParseFourNumbers(t *testing.T) { // P2.2: at each of the four places
	for place := range 4 {
		for _, word := range []string{
			"256", "257", "260", "300", "999", "1000", "2560", "25500",
			"00", "01", "09", "007", "010", "099", "0255", "000", "0000001",
			"", " ", "-1", "+1", "-0", " 1", "1 ", "\t1", "1\n", "1\x00", "\x00", "\x01",
			"a", "f", "A", "1a", "a1", "0x1", "0X1", "1e1", "1_0", "0b1", "0o7", "1,0", "1/8", "1:2", "::1", "*", "/", ":",
			"4294967296", "4294967297", "18446744073709551616", "18446744073709551617", "340282366920938463463374607431768211457",
			"٣", "１", "1１", "İ", "ı", "1ı", "²", "é", "\xff", "1\xff", "\xff1", "\xc3", "\xe2\x82", "\xed\xa0\x80", "\xf0\x9f\x8d", "\xc0\xb1", "\uFFFD",
		} {
			words := []string{"1", "22", "133", "0"}
			words[place] = word
			wantNoText(t, strings.Join(words, "."))
		}
	}
}

func TestParseFourForms(t *testing.T) { // P2.2
	for _, s := range []string{
		"1", "1.2", "1.2.3", "1.2.3.4.5", "1.2.3.4.0", "0.1.2.3.4", "1.2.3.4.5.6.7.8",
		".", "..", "...", "....", ".1.2.3.4", "1.2.3.4.", "1.2.3.", ".2.3.4", "1..3.4", "1..2.3.4", "1.2..3.4", "1.2.3..4",
		"1,2,3,4", "1.2.3,4", "1 2 3 4", "1.2.3.4 ", " 1.2.3.4", "1.2.3.4\n", "\n1.2.3.4", "1.2.3.4\x00", "1.2.3.4/32",
		"1:2:3:4", "1.2.3:4", "1.2:3.4", "1.2.3.4:", ":1.2.3.4", "::1.2.3.4", "16909060", "0", "none", "*", "[1.2.3.4]", "1.2.3.4%eth0",
		"1\u012e2.3.4", "1。2。3。4", "1.2.3.4\xff", "\xff1.2.3.4", "1\xff2.3.4", "1\xae2.3.4", "\ufeff1.2.3.4",
		"255.255.255.256", "01.2.3.4", "256.1.1.1",
	} {
		wantNoText(t, s)
	}
}

func TestParseSixNumbers(t *testing.T) { // P2.2: at each of the eight places
	for place := range 8 {
		for _, word := range []string{
			"10000", "10001", "fffff", "12345", "ffff0", "100000000", "100000001", "10000000000000000", "10000000000000001", "100000000000000000000000000000001",
			"00", "01", "0f", "001", "0001", "0fff", "0ffff", "00000",
			"A", "F", "aB", "DB8", "FFFF", "fffF", "g", "G", "1g", "z", "0x1", "x", "1_0", "1.2", "1.2.3.4", "/", "`", "@", ".",
			" ", "-1", "+1", "-0", " 1", "1 ", "1\x00", "\x00", "1%1", "%", "ⅽ", "ａ", "１", "š", "ı", "é", "\xff", "a\xff", "\xffa", "\xc3", "\xe2\x82", "\xc1\xa1", "\uFFFD",
		} {
			words := []string{"1", "22", "333", "4444", "a", "bb", "ccc", "dddd"}
			words[place] = word
			wantNoText(t, strings.Join(words, ":"))
			if place > 1 { // beside two colons
				words[1] = ""
				wantNoText(t, strings.Join(append(words[:2:2], words[place:]...), ":"))
			}
		}
	}
}

func TestParseSixForms(t *testing.T) { // P2.2
	for _, s := range []string{
		":", ":::", "::::", ":1", "1:", ":::1", "1:::", "1:::2", "::1:", ":1::", ":1:2:3:4:5:6:7", "1:2:3:4:5:6:7:", ":1:2:3:4:5:6:7:8", "1:2:3:4:5:6:7:8:",
		"1:2", "1:2:3:4:5:6:7", "1:2:3:4:5:6:7:8:9", "0:0:0:0:0:0:0:0:0", "1:2:3:4:5:6:7:8:0", "0:1:2:3:4:5:6:7:8",
		"1::2::3", "::1::", "::::1", "1::2::", "::1::2", "1::2::3::4", // the two colons twice
		"1:2:3:4:5:6:7::8", "1::2:3:4:5:6:7:8", "::1:2:3:4:5:6:7:8", "1:2:3:4:5:6:7:8::", "1:2:3:4::5:6:7:8", "1:2:3:4:5::6:7:8:9", // for none
		"::2:3:4:5:6:7:8", "1:2:3:4:5:6:7::", "1::3:4:5:6:7:8", "1:2:3::5:6:7:8", "1:2:3:4:5:6::8", // for a lone one
		"0:0:0:0:0:0:0:0", "0:0:0:0:0:0:0:1", "1:0:0:0:0:0:0:0", "1:2:0:0:5:6:7:8", "0:0:3:4:5:6:7:8", "1:2:3:4:5:6:0:0", // without
		"::0", "0::", "0::0", "::0:0", "0::1", "1::0", "1:0::", "::0:1", "1:2::0:5:6:7:8", "1:2:0::5:6:7:8", "0:0::", "1:0::0:2", // of a part of the row
		"1:0:0:2::3:4", "1::2:0:0:0:3", "0:0:0:0:1::", "1::2:0:0:0:0", "1:0:0:0:0:2::", "0:0:1:1:1:1::", "1:0:0:2:3:4::", // not the longest one, not the first one
		"2001:DB8::", "2001:Db8::", "2001:0db8::", "2001:db8::0001", "::FFFF", "::fffF",
		"::1.2.3.4", "::ffff:1.2.3.4", "1:2:3:4:5:6:1.2.3.4", "1:2:3:4:5:6:7.8", "1.2.3.4::", "::1.2",
		" ::", ":: ", ": :", "::\n", "\n::", "::\x00", "::/0", "[::]", "fe80::1%eth0", "::%1", "::*", "g::", "::g", "-1::", "+1::",
		"：：", "::é", "é::", "1::\xff", "\xff::", ":\xff:", "::\xc3", "\u013a\u013a", "1\u013a2\u013a3:4:5:6:7:8", "\ufeff::",
	} {
		wantNoText(t, s)
	}
}

func TestParseLong(t *testing.T) { // W1, P2.2: texts of any length end
	for _, piece := range []string{"1.", ".", "1:", ":", "0", "1", "f", "0:", "::", "1::", "é", "\xff", "/", " "} {
		long := strings.Repeat(piece, 1<<16)
		for _, s := range []string{long, "1.2.3.4" + long, long + "1.2.3.4", "1:2" + long, "::" + long, long + "::"} {
			wantNoText(t, s)
			if p, e := addr.ParsePrefix(s); e != api.ErrForm || p != (api.Prefix{}) {
				t.Errorf("ParsePrefix of many %q: %v, %v", piece, p, e)
			}
		}
	}
}

func TestTextIsKept(t *testing.T) { // P2.6: what was told stays
	b := []byte("10.1.2.3")
	a, _ := addr.Parse(string(b))
	one := addr.Text(a)
	clear(b)
	a.B[0] = 11
	if one != "10.1.2.3" || addr.Text(a) != "11.1.2.3" {
		t.Errorf("%q, %q", one, addr.Text(a))
	}
}
