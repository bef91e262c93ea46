package addr_test

import (
	"math/rand/v2"
	"net/netip"
	"slices"
	"strings"
	"testing"

	"vinery/addr"
	"vinery/api"
)

// some is an address, with rows of 0 in it, and numbers of all lengths.
func some(r *rand.Rand) api.Addr {
	a := api.Addr{Size: []int{4, 16, 16}[r.IntN(3)]}
	for i := range a.B[:a.Size] {
		if r.IntN(3) == 0 {
			a.B[i] = byte(r.IntN(256)) >> r.IntN(8)
		}
	}
	return a
}

// theirs is the library's address.
func theirs(a api.Addr) netip.Addr {
	out, _ := netip.AddrFromSlice(a.B[:a.Size])
	return out
}

// otherForm is one that the library writes with points.
func otherForm(a api.Addr) bool { return theirs(a).Is4In6() }

func TestTextsAsTheLibrarys(t *testing.T) { // P2.2, P2.4, P2.7
	r := rand.New(rand.NewPCG(1, 2))
	for range 50000 {
		a := some(r)
		if otherForm(a) {
			continue
		}
		wantText(t, a, theirs(a).String())
		bits := r.IntN(8*a.Size + 1)
		p, e := addr.Cut(a, bits)
		their, err := theirs(a).Prefix(bits)
		if e != api.OK || err != nil {
			t.Fatalf("Cut(%v, %d): %v, %v", a, bits, e, err)
		}
		if !otherForm(p.Addr) {
			wantPrefix(t, p, their.String())
		}
		if b := some(r); addr.Has(p, b) != their.Contains(theirs(b)) {
			t.Fatalf("%v and %v: %v", p, b, addr.Has(p, b))
		}
		if addr.Multicast(a) != theirs(a).IsMulticast() {
			t.Fatalf("%v: %v", a, addr.Multicast(a))
		}
	}
}

// spoilt is a text with some of it changed: a piece put in, taken out, or put in the place of another one.
func spoilt(r *rand.Rand, s string) string {
	pieces := []string{"0", "1", "9", "a", "f", "F", "g", ".", ":", "::", "/", "", "0:", ":0", "00", "25", "é", "\xff", " ", "-"}
	for range 1 + r.IntN(3) {
		from := r.IntN(len(s) + 1)
		to := min(from+r.IntN(3), len(s))
		s = s[:from] + pieces[r.IntN(len(pieces))] + s[to:]
	}
	return s
}

func TestJustTheText(t *testing.T) { // P2.2, P2.4: a text is taken just if it is what is written
	r := rand.New(rand.NewPCG(3, 4))
	taken := 0
	for range 200000 {
		a := some(r)
		s := spoilt(r, addr.Text(a))
		b, e := addr.Parse(s)
		their, err := netip.ParseAddr(s)
		fine := s == "" || err == nil && their.Zone() == "" && (their.String() == s || their.Is4In6() && !strings.Contains(s, "."))
		if fine && their.Is4In6() { // the library writes another text: the words of the chapter hold
			fine = addr.Text(b) == s
		}
		if (e == api.OK) != fine || e == api.OK && addr.Text(b) != s || e != api.OK && (e != api.ErrForm || b != api.Addr{}) {
			t.Fatalf("Parse(%q): %v, %v; the library: %v, %v", s, b, e, their, err)
		}
		if e == api.OK {
			taken++
		}
		p, _ := addr.Cut(a, r.IntN(8*a.Size+1))
		s = spoilt(r, addr.PrefixText(p))
		q, e := addr.ParsePrefix(s)
		if e == api.OK && addr.PrefixText(q) != s || e != api.OK && (e != api.ErrForm || q != api.Prefix{}) {
			t.Fatalf("ParsePrefix(%q): %v, %v", s, q, e)
		}
		if theirs, err := netip.ParsePrefix(s); !strings.Contains(s, ".") || !strings.Contains(s, ":") {
			if fine := err == nil && theirs.Masked().String() == s; !theirs.Addr().Is4In6() && fine != (e == api.OK) {
				t.Fatalf("ParsePrefix(%q): %v, %v; the library: %v, %v", s, q, e, theirs, err)
			}
		}
	}
	if taken < 1000 {
		t.Errorf("just %d texts were right: too few to tell", taken)
	}
}

func TestPrefixesOfOneAddress(t *testing.T) { // P2.8
	r := rand.New(rand.NewPCG(5, 6))
	for range 20000 {
		a := some(r)
		bits := []int{r.IntN(8*a.Size + 1), r.IntN(8*a.Size + 1)}
		slices.Sort(bits)
		wide, _ := addr.Cut(a, bits[0])
		narrow, _ := addr.Cut(a, bits[1])
		b := a
		for i := bits[0]; i < 8*a.Size; i++ { // an address of the wide one's, most often of the narrow one's too
			if i >= bits[1] || r.IntN(200) == 0 {
				b = turn(b, i)
			}
		}
		if !addr.Has(wide, b) || addr.Has(narrow, b) && !addr.Has(wide, b) {
			t.Fatalf("%v, %v and %v", wide, narrow, b)
		}
	}
}
