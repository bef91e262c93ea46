package rd_test

import (
	"encoding/binary"
	"fmt"
	"math/rand/v2"
	"net/netip"
	"regexp"
	"strconv"
	"strings"
	"testing"

	"vinery/api"
	"vinery/rd"
)

// some is one of any kind, most often known, with numbers of all lengths.
func some(r *rand.Rand) api.RD {
	var d api.RD
	binary.BigEndian.PutUint64(d[:], r.Uint64()>>r.IntN(64))
	if r.IntN(4) != 0 {
		d[0], d[1] = 0, byte(r.IntN(4))
	}
	for i := 2; i < 8; i++ {
		if r.IntN(3) == 0 {
			d[i] = 0
		}
	}
	return d
}

// theirText is the text that the chapter's words give, by the library's ways.
func theirText(d api.RD) string {
	short, long := binary.BigEndian.Uint16, binary.BigEndian.Uint32
	switch short(d[:]) {
	case 0:
		return fmt.Sprintf("0:%d:%d", short(d[2:]), long(d[4:]))
	case 1:
		return fmt.Sprintf("1:%v:%d", netip.AddrFrom4([4]byte(d[2:6])), short(d[6:]))
	case 2:
		return fmt.Sprintf("2:%d:%d", long(d[2:]), short(d[6:]))
	}
	return fmt.Sprintf("?:%x", d[:])
}

func TestAsTheModel(t *testing.T) { // P3.1 to P3.5
	r := rand.New(rand.NewPCG(1, 2))
	for range 100000 {
		d := some(r)
		wantText(t, d, theirText(d))
		kind, high, low, ok := rd.Parts(d)
		if ok != (d[0] == 0 && d[1] < 3) || ok && bytesOf(kind, high, low) != d || !ok && (kind != 0 || high != 0 || low != 0) {
			t.Fatalf("Parts(%v): %d, %d, %d, %v", d, kind, high, low, ok)
		}
		if again, e := rd.Make(kind, high, low); ok && (e != api.OK || again != d) {
			t.Fatalf("%v: made again: %v, %v", d, again, e)
		}
		b := some(r)
		if r.IntN(2) == 0 { // unlike in its last bytes alone
			b = d
			b[2+r.IntN(6)] = byte(r.IntN(256))
		}
		wantOrder(t, d, b, strings.Compare(string(d[:]), string(b[:])))
	}
}

// The forms of texts; the numbers' tops are looked at beside them.
var (
	numbersForm = regexp.MustCompile(`\A([02]):(0|[1-9][0-9]*):(0|[1-9][0-9]*)\z`)
	addrForm    = regexp.MustCompile(`\A1:((?:0|[1-9][0-9]*)(?:\.(?:0|[1-9][0-9]*)){3}):(0|[1-9][0-9]*)\z`)
	otherForm   = regexp.MustCompile(`\A\?:([0-9a-f]{16})\z`)
)

// fits tells whether a word is a number of so many bits.
func fits(word string, bits int) bool {
	_, err := strconv.ParseUint(word, 10, bits)
	return err == nil
}

// isText tells whether one has this text.
func isText(s string) bool {
	if m := numbersForm.FindStringSubmatch(s); m != nil {
		if m[1] == "0" {
			return fits(m[2], 16) && fits(m[3], 32)
		}
		return fits(m[2], 32) && fits(m[3], 16)
	}
	if m := addrForm.FindStringSubmatch(s); m != nil {
		for _, word := range strings.Split(m[1], ".") {
			if !fits(word, 8) {
				return false
			}
		}
		return fits(m[2], 16)
	}
	m := otherForm.FindStringSubmatch(s)
	return m != nil && (m[1][:3] != "000" || m[1][3] > '2')
}

// spoilt is a text with some of it changed: a piece put in, taken out, or put in the place of another one.
func spoilt(r *rand.Rand, s string) string {
	pieces := []string{"0", "1", "2", "9", "a", "f", "F", "?", ".", ":", "::", "", "", "0:", ":0", "1:", "2:", "00", "25", "6553", "é", "\xff", " ", "-"}
	for range 1 + r.IntN(3) {
		from := r.IntN(len(s) + 1)
		to := min(from+r.IntN(3), len(s))
		s = s[:from] + pieces[r.IntN(len(pieces))] + s[to:]
	}
	return s
}

func TestJustTheText(t *testing.T) { // P3.2, P3.4: a text is taken just if it is one's
	r := rand.New(rand.NewPCG(3, 4))
	taken := 0
	for range 300000 {
		s := spoilt(r, theirText(some(r)))
		d, e := rd.Parse(s)
		if (e == api.OK) != isText(s) || e == api.OK && theirText(d) != s || e != api.OK && (e != api.ErrForm || d != api.RD{}) {
			t.Fatalf("Parse(%q): %v, %v", s, d, e)
		}
		if e == api.OK {
			taken++
		}
	}
	if taken < 10000 {
		t.Errorf("just %d texts were right: too few to tell", taken)
	}
}

func TestMakeAtRandom(t *testing.T) { // P3.1: any three numbers
	r := rand.New(rand.NewPCG(5, 6))
	number := func() int { return int(r.Uint64() >> r.IntN(64)) }
	for range 100000 {
		kind, high, low := r.IntN(5)-1, number(), number()
		want := api.ErrArg
		for _, k := range kinds {
			if k.kind == kind {
				want = api.OK
				if high < 0 || high > k.high || low < 0 || low > k.low {
					want = api.ErrNum
				}
			}
		}
		d, e := rd.Make(kind, high, low)
		if e != want || e == api.OK && d != bytesOf(kind, high, low) || e != api.OK && d != (api.RD{}) {
			t.Fatalf("Make(%d, %d, %d): %v, %v, want %v", kind, high, low, d, e, want)
		}
	}
}
