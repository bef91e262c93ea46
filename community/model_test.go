package community_test

import (
	"encoding/binary"
	"fmt"
	"math/rand/v2"
	"net/netip"
	"regexp"
	"slices"
	"strconv"
	"strings"
	"testing"

	"vinery/api"
	"vinery/community"
)

// some is one of any kind, most often not of the last one, with numbers of all lengths.
func some(r *rand.Rand) api.Ext {
	var e api.Ext
	binary.BigEndian.PutUint64(e[:], r.Uint64()>>r.IntN(64))
	if r.IntN(6) != 0 {
		e[0], e[1] = byte(r.IntN(4)), []byte{2, 2, 9, 11}[r.IntN(4)]
	}
	for i := 2; i < 8; i++ {
		if r.IntN(3) == 0 {
			e[i] = 0
		}
	}
	if r.IntN(2) == 0 && e[1] == 9 {
		e[0], e[6], e[7] = 2, 0, 0
	}
	return e
}

// theirText is the text that the chapter's words give, by the library's ways.
func theirText(e api.Ext) string {
	short, long := binary.BigEndian.Uint16, binary.BigEndian.Uint32
	at := netip.AddrFrom4([4]byte(e[2:6]))
	switch {
	case kindOf(e) == api.ExtImport:
		return fmt.Sprintf("import:%v:%d", at, short(e[6:]))
	case kindOf(e) == api.ExtSource:
		return fmt.Sprintf("source:%d", long(e[2:]))
	case kindOf(e) == api.ExtOther:
		return fmt.Sprintf("other:%x", e[:])
	case e[0] == 0:
		return fmt.Sprintf("rt:0:%d:%d", short(e[2:]), long(e[4:]))
	case e[0] == 1:
		return fmt.Sprintf("rt:1:%v:%d", at, short(e[6:]))
	}
	return fmt.Sprintf("rt:2:%d:%d", long(e[2:]), short(e[6:]))
}

// madeAgain is one of those that can be made, made of what is told of it.
func madeAgain(e api.Ext) (api.Ext, api.Errno) {
	a, n, is := community.Importer(e)
	if is {
		return community.Import(a, n)
	}
	as, is := community.AS(e)
	if is {
		return community.Source(as)
	}
	if e[0] == 0 {
		return community.Target(0, int(binary.BigEndian.Uint16(e[2:])), int(binary.BigEndian.Uint32(e[4:])))
	}
	return community.Target(int(e[0]), int(binary.BigEndian.Uint32(e[2:])), int(binary.BigEndian.Uint16(e[6:])))
}

func TestAsTheModel(t *testing.T) { // P4.1 to P4.3, P4.7
	r := rand.New(rand.NewPCG(1, 2))
	seen := [4]int{}
	for range 100000 {
		e := some(r)
		seen[kindOf(e)]++
		wantTold(t, e)
		wantText(t, e, theirText(e))
		if kindOf(e) == api.ExtOther {
			continue
		}
		if again, errno := madeAgain(e); errno != api.OK || again != e {
			t.Fatalf("%v: made again: %v, %v", e, again, errno)
		}
	}
	if slices.Min(seen[:]) < 5000 {
		t.Errorf("too few of a kind to tell: %v", seen)
	}
}

// The forms of texts; the numbers' tops are looked at beside them.
var (
	numbersForm = regexp.MustCompile(`\Art:([02]):(0|[1-9][0-9]*):(0|[1-9][0-9]*)\z`)
	addrForm    = regexp.MustCompile(`\A(?:rt:1|import):((?:0|[1-9][0-9]*)(?:\.(?:0|[1-9][0-9]*)){3}):(0|[1-9][0-9]*)\z`)
	sourceForm  = regexp.MustCompile(`\Asource:(0|[1-9][0-9]*)\z`)
	otherForm   = regexp.MustCompile(`\Aother:([0-9a-f]{16})\z`)
	madeForm    = regexp.MustCompile(`\A(?:0[012]02|010b|0209.{8}0000)`)
)

// fits tells whether a word is a number of so many bits.
func fits(word string, bits int) bool {
	_, err := strconv.ParseUint(word, 10, bits)
	return err == nil
}

// isText tells whether one has this text.
func isText(s string) bool {
	if m := numbersForm.FindStringSubmatch(s); m != nil {
		if m[1] == "0" {
			return fits(m[2], 16) && fits(m[3], 32)
		}
		return fits(m[2], 32) && fits(m[3], 16)
	}
	if m := addrForm.FindStringSubmatch(s); m != nil {
		for _, word := range strings.Split(m[1], ".") {
			if !fits(word, 8) {
				return false
			}
		}
		return fits(m[2], 16)
	}
	if m := sourceForm.FindStringSubmatch(s); m != nil {
		return fits(m[1], 32)
	}
	m := otherForm.FindStringSubmatch(s)
	return m != nil && !madeForm.MatchString(m[1])
}

// spoilt is a text with some of it changed: a piece put in, taken out, or put in the place of another one.
func spoilt(r *rand.Rand, s string) string {
	pieces := []string{"0", "1", "2", "9", "a", "f", "F", "?", ".", ":", "::", "", "", "0:", ":0", "1:", "2:", "rt:", "import:", "source:", "other:", "0002", "010b", "0209", "00", "25", "6553", "é", "\xff", " ", "-"}
	for range 1 + r.IntN(3) {
		from := r.IntN(len(s) + 1)
		if r.IntN(3) == 0 { // behind a colon, where a part begins
			from = strings.LastIndexByte(s[:from], ':') + 1
		}
		to := min(from+r.IntN(5), len(s))
		s = s[:from] + pieces[r.IntN(len(pieces))] + s[to:]
	}
	return s
}

func TestJustTheText(t *testing.T) { // P4.3, P4.7: a text is taken just if it is one's
	r := rand.New(rand.NewPCG(3, 4))
	taken := 0
	for range 300000 {
		s := spoilt(r, theirText(some(r)))
		e, errno := community.Parse(s)
		if (errno == api.OK) != isText(s) || errno == api.OK && theirText(e) != s || errno != api.OK && (errno != api.ErrForm || e != api.Ext{}) {
			t.Fatalf("Parse(%q): %v, %v", s, e, errno)
		}
		if errno == api.OK {
			taken++
		}
	}
	if taken < 10000 {
		t.Errorf("just %d texts were right: too few to tell", taken)
	}
}

// someOf are up to n of a few that are much alike: so many stand twice, and in several rows.
func someOf(r *rand.Rand, n int) []api.Ext {
	row := make([]api.Ext, r.IntN(n+1))
	for i := range row {
		row[i] = with(r.IntN(4), []int{2, 2, 9, 11}[r.IntN(4)], [6]byte{r.N(byte(2)), 0, 0, 0, 0, r.N(byte(2))})
	}
	return row
}

func TestRowsAsTheModel(t *testing.T) { // P4.4, P4.5, P4.8
	r := rand.New(rand.NewPCG(5, 6))
	meet := 0
	for range 30000 {
		a, b := someOf(r, 12), someOf(r, 12)
		of := map[api.Ext]int{}
		for _, e := range a {
			of[e]++
		}
		want := false
		for _, e := range b {
			want = want || of[e] > 0 && kindOf(e) == api.ExtTarget
		}
		if wantMeet(t, a, b, want); want {
			meet++
		}
		set := community.Set(a...)
		for i, e := range set {
			if of[e] == 0 || i > 0 && string(set[i-1][:]) >= string(e[:]) {
				t.Fatalf("Set of %v: %v", a, set)
			}
		}
		if len(set) != len(of) {
			t.Fatalf("Set of %v: %v", a, set)
		}
		r.Shuffle(len(a), func(i, j int) { a[i], a[j] = a[j], a[i] })
		wantRow(t, "Set", community.Set(append(a, set...)...), set...)
		back, errno := community.Read(community.Bytes(b))
		if wantRow(t, "Read", back, b...); errno != api.OK {
			t.Fatalf("Read of %v: %v", b, errno)
		}
	}
	if meet < 5000 || meet > 25000 {
		t.Errorf("%d met: too one-sided to tell", meet)
	}
}
