package community_test

import (
	"strconv"
	"strings"
	"testing"

	"vinery/api"
	"vinery/community"
)

var (
	_ func(api.Ext) string              = community.Text
	_ func(string) (api.Ext, api.Errno) = community.Parse
)

// wantText holds one and its text against each other, both ways.
func wantText(t *testing.T, e api.Ext, s string) {
	t.Helper()
	if got := community.Text(e); got != s {
		t.Errorf("Text of %v: %q, want %q", e, got, s)
	}
	if got, errno := community.Parse(s); errno != api.OK || got != e {
		t.Errorf("Parse(%q): %v, %v, want %v", s, got, errno, e)
	}
}

// wantNoText wants texts to be refused.
func wantNoText(t *testing.T, texts ...string) {
	t.Helper()
	for _, s := range texts {
		if e, errno := community.Parse(s); errno != api.ErrForm || e != (api.Ext{}) {
			t.Errorf("Parse(%.60q): %v, %v, want ErrForm", s, e, errno)
		}
	}
}

func TestText(t *testing.T) { // P4.3, P4.7
	for _, c := range []struct {
		e    api.Ext
		text string
	}{
		{api.Ext{0, 2}, "rt:0:0:0"},
		{api.Ext{1, 2}, "rt:1:0.0.0.0:0"},
		{api.Ext{2, 2}, "rt:2:0:0"},
		{api.Ext{0, 2, 253, 232, 0, 0, 0, 77}, "rt:0:65000:77"},
		{api.Ext{0, 2, 255, 255, 255, 255, 255, 255}, "rt:0:65535:4294967295"},
		{api.Ext{1, 2, 10, 0, 0, 1, 0, 7}, "rt:1:10.0.0.1:7"},
		{api.Ext{1, 2, 255, 255, 255, 255, 255, 255}, "rt:1:255.255.255.255:65535"},
		{api.Ext{2, 2, 250, 86, 234, 0, 0, 7}, "rt:2:4200000000:7"},
		{api.Ext{2, 2, 255, 255, 255, 255, 255, 255}, "rt:2:4294967295:65535"},
		{api.Ext{1, 11, 10, 0, 0, 1, 0, 3}, "import:10.0.0.1:3"},
		{api.Ext{1, 11}, "import:0.0.0.0:0"},
		{api.Ext{1, 11, 255, 255, 255, 255, 255, 255}, "import:255.255.255.255:65535"},
		{api.Ext{1, 11, 224, 0, 0, 1, 1, 0}, "import:224.0.0.1:256"},
		{api.Ext{2, 9}, "source:0"},
		{api.Ext{2, 9, 0, 0, 253, 232}, "source:65000"},
		{api.Ext{2, 9, 255, 255, 255, 255}, "source:4294967295"},
		{api.Ext{2, 9, 128}, "source:2147483648"},
	} {
		wantText(t, c.e, c.text)
	}
}

func TestTextOther(t *testing.T) { // P4.3, P4.7
	for _, c := range []struct {
		e    api.Ext
		text string
	}{
		{api.Ext{}, "other:0000000000000000"},
		{api.Ext{0, 9, 253, 232}, "other:0009fde800000000"},
		{api.Ext{0, 11, 10, 0, 0, 1, 0, 3}, "other:000b0a0000010003"},
		{api.Ext{2, 11, 10, 0, 0, 1, 0, 3}, "other:020b0a0000010003"},
		{api.Ext{1, 9, 0, 0, 253, 232}, "other:01090000fde80000"},
		{api.Ext{2, 9, 0, 0, 253, 232, 0, 1}, "other:02090000fde80001"},
		{api.Ext{2, 9, 0, 0, 253, 232, 1, 0}, "other:02090000fde80100"},
		{api.Ext{3, 2}, "other:0302000000000000"},
		{api.Ext{64, 2}, "other:4002000000000000"},
		{api.Ext{128, 2, 1, 2, 3, 4, 5, 6}, "other:8002010203040506"},
		{api.Ext{255, 255, 255, 255, 255, 255, 255, 255}, "other:ffffffffffffffff"},
		{api.Ext{0x01, 0x23, 0x45, 0x67, 0x89, 0xab, 0xcd, 0xef}, "other:0123456789abcdef"},
		{api.Ext{0xfe, 0xdc, 0xba, 0x98, 0x76, 0x54, 0x32, 0x10}, "other:fedcba9876543210"},
	} {
		wantText(t, c.e, c.text)
	}
}

// wordOf is what the text of a kind begins with.
var wordOf = [4]string{"other:", "rt:", "import:", "source:"}

func TestTextCrosswise(t *testing.T) { // P4.3, P4.7: each first byte with each second one
	for first := range 256 {
		for second := range 256 {
			for _, rest := range rests[3:7] {
				e := with(first, second, rest)
				s := community.Text(e)
				if !strings.HasPrefix(s, wordOf[kindOf(e)]) {
					t.Fatalf("%v: %q", e, s)
				}
				if back, errno := community.Parse(s); back != e || errno != api.OK {
					t.Fatalf("Parse(%q): %v, %v, want %v", s, back, errno, e)
				}
			}
		}
	}
}

func TestTextNumbers(t *testing.T) { // P4.3, P4.7
	for _, high := range edges {
		h := strconv.Itoa(high)
		e, _ := community.Source(high)
		wantText(t, e, "source:"+h)
		if high <= top2 {
			e, _ = community.Import(four(10, 0, 0, 1), high)
			wantText(t, e, "import:10.0.0.1:"+h)
		} else {
			wantNoText(t, "import:10.0.0.1:"+h)
		}
		for _, low := range edges {
			l := strconv.Itoa(low)
			if high <= top2 {
				wantText(t, targetOf(0, high, low), "rt:0:"+h+":"+l)
			} else {
				wantNoText(t, "rt:0:"+h+":"+l)
			}
			if low <= top2 {
				wantText(t, targetOf(2, high, low), "rt:2:"+h+":"+l)
			} else {
				wantNoText(t, "rt:2:"+h+":"+l)
			}
		}
	}
}

func TestTextAddresses(t *testing.T) { // P4.3, P4.7: each number at each place
	for place := range 4 {
		for n := range 256 {
			words, rest := []string{"7", "70", "170", "0"}, [6]byte{7, 70, 170, 0, 1, 0}
			words[place], rest[place] = strconv.Itoa(n), byte(n)
			wantText(t, with(1, 2, rest), "rt:1:"+strings.Join(words, ".")+":256")
			wantText(t, with(1, 11, rest), "import:"+strings.Join(words, ".")+":256")
		}
	}
}

// oddWords are no numbers, or not in the form of one.
var oddWords = []string{
	"", " ", "-1", "+1", "-0", "+0", " 1", "1 ", "\t1", "1\n", "1\x00", "\x00", "\x01",
	"00", "01", "07", "065", "0001", "00000000000000000000000000000001",
	"a", "f", "A", "F", "1a", "a1", "0x1", "0X1", "0b1", "0o7", "1e1", "1E1", "1_0", "1.0", "1,0", "1/8", "?", "*", "#1", "none",
	"1.2.3.4", "0.0.0.0", "0.0.0.1", "10.0.0.1", "1.2.3", "1.2.3.4.5", "::", "::1", "2001:db8::", // an address
	"4294967296", "4294967297", "8589934592", "18446744073709551615", "18446744073709551616", "18446744073709551617", "340282366920938463463374607431768211456", "340282366920938463463374607431768211457",
	"٣", "１", "1１", "İ", "ı", "1ı", "²", "½", "é", "\u013a", "\xff", "1\xff", "\xff1", "\xc3", "\xe2\x82", "\xed\xa0\x80", "\xf0\x9f\x8d", "\xc0\xb1", "\xba", "\uFFFD", "\ufeff1",
}

func TestParseOddNumbers(t *testing.T) { // P4.3: in the place of each number
	for _, word := range oddWords {
		wantNoText(t, "rt:0:"+word+":1", "rt:0:1:"+word, "rt:2:"+word+":1", "rt:2:1:"+word, "rt:1:10.0.0.1:"+word)
		wantNoText(t, "rt:"+word+":1:1", "rt:"+word+":10.0.0.1:1", "rt:"+word)
		wantNoText(t, "import:10.0.0.1:"+word, "source:"+word)
	}
	for _, n := range []string{"65536", "65537", "131072", "4294967295"} { // where it has two bytes
		wantNoText(t, "import:10.0.0.1:"+n, "rt:1:10.0.0.1:"+n, "rt:2:1:"+n, "rt:0:"+n+":1")
	}
}

func TestParseOddAddresses(t *testing.T) { // P4.3: in the place of each address
	for _, word := range []string{
		"", " ", "0", "1", "7", "65535", "167772161", "4294967295", // a number
		"1.2.3", "1.2.3.4.5", "1.2.3.", ".1.2.3", "1..2.3", "256.0.0.1", "10.0.0.256", "010.0.0.1", "10.0.0.01", "10.00.0.1", "-1.0.0.1", "+1.0.0.1", " 10.0.0.1", "10.0.0.1 ", "10.0.0.1/32", "10,0,0,1", "a.b.c.d", "0xa.0.0.1", "１.2.3.4", "1.2.3.é", "1.2.3.\xff", "\xff",
		"::", "::1", "2001:db8::", "::ffff:1.2.3.4", "1:2:3:4:5:6:7:8", "[::1]", "0a000001", "10.0.0.1.", "localhost", "10.0.0.1:10.0.0.1", "none",
	} {
		wantNoText(t, "import:"+word+":7", "rt:1:"+word+":7")
	}
	wantNoText(t, "rt:0:10.0.0.1:7", "rt:2:10.0.0.1:7", "rt:3:10.0.0.1:7", "rt:0:7:10.0.0.1", "import:7:10.0.0.1", "rt:1:7:10.0.0.1", "source:10.0.0.1", "source:0.0.253.232")
}

func TestParseForms(t *testing.T) { // P4.3: parts too few, too many, empty; words that are none
	wantNoText(t, "", " ", ":", "::", ":::", "0", "1", "rt", "import", "source", "other", "rt:", "import:", "source:", "other:")
	wantNoText(t, "rt::", "rt:::", "rt:0", "rt:0:", "rt:0:1", "rt:0:1:", "rt:0::1", "rt::0:1", "rt::0:1:2", "rt:0:1::2", "rt:0:1:2:", "rt:0:1:2:3", ":rt:0:1:2", "rt:rt:0:1:2", "rt:65000:77", "rt:10.0.0.1:7", "rt:1:10.0.0.1", "rt:1:10.0.0.1:", "rt:1:10.0.0.1:7:7", "rt:2:1:1:1")
	wantNoText(t, "import::", "import::3", "import:10.0.0.1", "import:10.0.0.1:", "import:10.0.0.1::3", "import::10.0.0.1:3", "import:10.0.0.1:3:", "import:10.0.0.1:3:3", "import:1:10.0.0.1:3", ":import:10.0.0.1:3", "import:3", "import:3:10.0.0.1", "import:0:0")
	wantNoText(t, "source::", "source::1", "source:1:", "source:1:0", "source:2:1", "source:2:1:0", ":source:1", "source:65000:0", "source:0:65000", "source 1", "source1", "source:source:1")
	wantNoText(t, "rt:0:1:2 ", " rt:0:1:2", "rt:0:1:2\n", "\nrt:0:1:2", "rt: 0:1:2", "rt :0:1:2", "rt:0:1:2\x00", "\x00rt:0:1:2", "rt:0;1;2", "rt;0:1:2", "rt.0.1.2", "rt:0.1.2", "rt-0-1-2", "[rt:0:1:2]", "\ufeffrt:0:1:2", "rt:0:1:2\xff", "\xffrt:0:1:2", "rt:0:1:2é", "rt：0:1:2", "rt:0：1：2", "rt\u013a0:1:2")
	wantNoText(t, "0:65000:77", "1:10.0.0.1:7", "10.0.0.1:3", "65000", "0002fde80000004d", ":0009fde800000000", "none", "é:é", "\xff:\xff", "é", "\xff", "\xc3\x28", "\xed\xa0\x80")
}

func TestParseWords(t *testing.T) { // P4.3: capitals, and other words ahead of what is right behind its own
	for _, tail := range []string{":0:65000:77", ":1:10.0.0.1:7", ":10.0.0.1:3", ":65000", ":0009fde800000000", ":0002fde80000004d", ":?:0009000000000001", ":"} {
		for _, word := range []string{"RT", "Rt", "rT", "Import", "IMPORT", "imporT", "Source", "SOURCE", "Other", "OTHER", "otheR", "r", "t", "rtt", "rt0", "target", "route-target", "imports", "impor", "sources", "as", "ext", "others", "othe", "?", "0", "1", "2", "", " ", "ｒｔ", "ſource", "ımport", "ｏther", "ré", "rt\xff", "\xff", "rt\x00", " rt", "rt ", "other ", " other"} {
			wantNoText(t, word+tail)
		}
	}
	for word, tails := range map[string][]string{ // each word with what is right behind another one
		"rt":     {"10.0.0.1:3", "65000", "0009fde800000000", "0002fde80000004d", "?:0009000000000001", "?:0000fde80000004d", "?:0003000000000000", "3:0:0", "9:0:0"},
		"import": {"0:65000:77", "1:10.0.0.1:7", "65000", "0009fde800000000", "010b0a0000010003"},
		"source": {"0:65000:77", "1:10.0.0.1:7", "10.0.0.1:3", "0009fde800000000", "02090000fde80000"},
		"other":  {"0:65000:77", "1:10.0.0.1:7", "10.0.0.1:3", "65000", "?:0009000000000001"},
	} {
		for _, tail := range tails {
			wantNoText(t, word+":"+tail)
		}
	}
}

func TestParseOther(t *testing.T) { // P4.3: the texts that are like those of others
	wantNoText(t, "other:0", "other:00", "other:0009", "other:000900000000000", "other:00090000000000011", "other:000900000000000100", "other:00090000000000010009000000000001") // too few, too many
	wantNoText(t, "other:0002fde80000004d", "other:0002000000000000", "other:0002ffffffffffff", "other:01020a0000010007", "other:0102000000000000", "other:0202fa56ea000007", "other:02020000000000ff",
		"other:010b0a0000010003", "other:010b000000000000", "other:010bffffffffffff", "other:02090000fde80000", "other:0209000000000000", "other:0209ffffffff0000") // those of targets, imports, sources
	wantNoText(t, "other:000900000000000A", "other:FFFFFFFFFFFFFFFF", "other:Ffffffffffffffff", "other:fffffffffffffffF", "other:g009000000000001", "other:00090000:00000001", "other:0009:0:1", "other:9:0:1", "other:9", "other:0009000000000001:", "other::0009000000000001", "other:0009000000000001:1", "other:other:0009000000000001",
		"other0009000000000001", "other:0x09000000000001", "other:+009000000000001", "other:-009000000000001", "other: 0009000000000001", "other: 009000000000001", "other:000900000000001 ", "other:0009000000000001\n", "other:0009000000000001 ", "other:000900000000000\x00", "other:00 09 00 00 00 00 00 01", "other:00.09.00.00.00.00.00.01",
		"other:000900000000000é", "other:00090000000000é", "other:é00900000000001", "other:éééééééé", "other:00090000000000\xff\xff", "other:\xff009000000000001", "other:000900000000000１", "other：0009000000000001", "other:0 9 253 232 0 0 0 0")
	for place := range 16 { // each of the digits
		for _, word := range []string{"g", "A", "F", "é", "\xff", " ", ":", "", "00", "/", "`", "@"} {
			digits := strings.Split("00ff5a3c12345678", "")
			digits[place] = word
			wantNoText(t, "other:"+strings.Join(digits, ""))
		}
	}
}

func TestParseLong(t *testing.T) { // W1, P4.3: texts of any length end
	for _, piece := range []string{"0", "1", "9", "f", "0:", ":", ".", "1.", "?", "rt:", "import:", "source:", "other:", "é", "\xff", " ", "-", "10.0.0.1:"} {
		long := strings.Repeat(piece, 1<<16)
		wantNoText(t, long, "rt:"+long, "rt:0:"+long+":1", "rt:0:1:1"+long, "rt:1:"+long+":7", "rt:1:10.0.0.1:7"+long, "rt:"+long+":1:1", long+"rt:0:1:1")
		wantNoText(t, "import:"+long, "import:"+long+":3", "import:10.0.0.1:3"+long, "source:"+long, "source:1"+long, "source:"+long+"1", "other:"+long, "other:0009fde800000000"+long)
	}
}

func TestTextIsKept(t *testing.T) { // P4.6: nothing is kept, and what was told stays
	b := []byte("rt:0:65000:77")
	e, _ := community.Parse(string(b))
	one := community.Text(e)
	clear(b)
	was := e
	clear(e[:])
	if one != "rt:0:65000:77" || community.Text(was) != one || community.Text(e) != "other:0000000000000000" {
		t.Errorf("%q, %q, %q", one, community.Text(was), community.Text(e))
	}
	if again, _ := community.Parse(one); again != was {
		t.Errorf("%v, %v", again, was)
	}
}
