package addr_test

import (
	"math"
	"strconv"
	"testing"

	"vinery/addr"
	"vinery/api"
)

var (
	_ func(api.Addr, int) (api.Prefix, api.Errno) = addr.Cut
	_ func(string) (api.Prefix, api.Errno)        = addr.ParsePrefix
	_ func(api.Prefix) string                     = addr.PrefixText
	_ func(api.Prefix, api.Addr) bool             = addr.Has
)

// bit is a bit of an address, the highest one of the first byte is 0.
func bit(a api.Addr, i int) int { return int(a.B[i/8]) >> (7 - i%8) & 1 }

// turn is the address with that bit turned over.
func turn(a api.Addr, i int) api.Addr {
	a.B[i/8] ^= 128 >> (i % 8)
	return a
}

// oddBits are numbers of bits that no prefix of an address of this size has.
func oddBits(size int) []int {
	return []int{-1, -8, math.MinInt, 8*size + 1, 8*size + 8, 256, 256 + 8, 1 << 32, 1<<32 + 8, math.MaxInt, math.MaxInt - 7}
}

// wrongPrefixes are some that are not right.
func wrongPrefixes() []api.Prefix {
	out := []api.Prefix{{}, {Bits: 1}, {Bits: -1}, {Bits: 8}}
	for _, a := range wrong() {
		for _, bits := range []int{0, 1, 8, 32, 8 * a.Size, 128, -1, math.MaxInt} {
			out = append(out, api.Prefix{Addr: a, Bits: bits})
		}
	}
	for _, size := range []int{4, 16} {
		for _, bits := range oddBits(size) {
			out = append(out, api.Prefix{Addr: full(size), Bits: bits}, api.Prefix{Addr: api.Addr{Size: size}, Bits: bits})
		}
		for bits := range 8 * size { // one bit behind them
			for i := bits; i < 8*size; i++ {
				out = append(out, api.Prefix{Addr: turn(api.Addr{Size: size}, i), Bits: bits})
			}
		}
	}
	return out
}

func TestCut(t *testing.T) { // P2.4
	for _, size := range []int{4, 16} {
		a := full(size)
		for i := range a.B[:size] {
			a.B[i] -= byte(37 * i)
		}
		for _, a := range []api.Addr{a, full(size), {Size: size}} {
			for bits := 0; bits <= 8*size; bits++ {
				p, e := addr.Cut(a, bits)
				if e != api.OK || p.Bits != bits || p.Addr.Size != size || !addr.Right(p.Addr) {
					t.Fatalf("Cut(%v, %d): %v, %v", a, bits, p, e)
				}
				for i := range 8 * size {
					if want := bit(a, i); i < bits && bit(p.Addr, i) != want || i >= bits && bit(p.Addr, i) != 0 {
						t.Fatalf("Cut(%v, %d): %v: bit %d", a, bits, p, i)
					}
				}
			}
		}
	}
}

func TestCutRefused(t *testing.T) { // P2.4
	refused := func(a api.Addr, bits int) {
		t.Helper()
		if p, e := addr.Cut(a, bits); e != api.ErrArg || p != (api.Prefix{}) {
			t.Errorf("Cut(%v, %d): %v, %v", a, bits, p, e)
		}
	}
	for _, size := range []int{4, 16} {
		for _, bits := range oddBits(size) {
			refused(full(size), bits)
			refused(api.Addr{Size: size}, bits)
		}
	}
	for _, bits := range []int{0, 1, 8, -1} {
		refused(api.Addr{}, bits)
		for _, a := range wrong() {
			refused(a, bits)
		}
	}
}

// wantPrefix holds a prefix and its text against each other, both ways.
func wantPrefix(t *testing.T, p api.Prefix, s string) {
	t.Helper()
	if got := addr.PrefixText(p); got != s {
		t.Errorf("PrefixText of %v: %q, want %q", p, got, s)
	}
	if got, e := addr.ParsePrefix(s); e != api.OK || got != p {
		t.Errorf("ParsePrefix(%q): %v, %v, want %v", s, got, e, p)
	}
}

func TestPrefixTexts(t *testing.T) { // P2.4, P2.7
	for _, c := range []struct {
		a    api.Addr
		bits int
		text string
	}{
		{v4(0, 0, 0, 0), 0, "0.0.0.0/0"},
		{v4(10, 0, 0, 0), 8, "10.0.0.0/8"},
		{v4(10, 0, 0, 0), 7, "10.0.0.0/7"},
		{v4(10, 1, 1, 0), 24, "10.1.1.0/24"},
		{v4(0, 0, 0, 0), 32, "0.0.0.0/32"},
		{full(4), 32, "255.255.255.255/32"},
		{v6(), 0, "::/0"},
		{v6(), 128, "::/128"},
		{v6(0x2001, 0xdb8), 32, "2001:db8::/32"},
		{v6(0x2001, 0xdb8), 29, "2001:db8::/29"},
		{v6(0x2001, 0xdb8), 100, "2001:db8::/100"},
		{full(16), 128, "ffff:ffff:ffff:ffff:ffff:ffff:ffff:ffff/128"},
	} {
		wantPrefix(t, api.Prefix{Addr: c.a, Bits: c.bits}, c.text)
	}
}

func TestPrefixTextsOfAllBits(t *testing.T) { // P2.4, P2.7
	for _, a := range []api.Addr{full(4), full(16), v4(1, 2, 3, 4), v6(0x8000, 0, 0, 1, 0, 0, 0, 5)} {
		for bits := 0; bits <= 8*a.Size; bits++ {
			p, _ := addr.Cut(a, bits)
			wantPrefix(t, p, addr.Text(p.Addr)+"/"+strconv.Itoa(bits))
		}
	}
}

func TestPrefixTextOfWrong(t *testing.T) { // P2.4
	for _, p := range wrongPrefixes() {
		if s := addr.PrefixText(p); s != "" {
			t.Errorf("%v: %q", p, s)
		}
	}
}

func TestParsePrefixForms(t *testing.T) { // P2.4
	for _, s := range []string{
		"", "/", "/0", "/8", "/32", "//", "/10.0.0.0", "8", "10.0.0.0", "::", "10.0.0.0/", "::/", "10.0.0.0 8",
		"10.0.0.0/33", "10.0.0.0/40", "10.0.0.0/128", "10.0.0.0/256", "10.0.0.0/264", "::/129", "::/200", "::/256", "::/1000",
		"10.0.0.0/-1", "10.0.0.0/+8", "10.0.0.0/-8", "10.0.0.0/08", "10.0.0.0/008", "0.0.0.0/00", "0.0.0.0/-0", "::/00", "::/0128", "::/+0",
		"10.0.0.0/ 8", "10.0.0.0 /8", " 10.0.0.0/8", "10.0.0.0/8 ", "10.0.0.0/8\n", "10.0.0.0/8\x00", "10.0.0.0/8/8", "10.0.0.0//8", "10.0.0.0/8/", "/10.0.0.0/8", "::/0/", "::/0/0",
		"10.0.0.0/8.0", "10.0.0.0/a", "::/a", "::/1a", "::/f", "10.0.0.0/0x8", "10.0.0.0/1e1", "10.0.0.0/1_0", "10.0.0.0/255.0.0.0", "::/::", "10.0.0.0/*",
		"10.0.0.0/4294967304", "10.0.0.0/18446744073709551624", "::/18446744073709551616", "::/340282366920938463463374607431768211456",
		"10.1.0.0/8", "10.0.0.1/31", "10.0.0.0/6", "10.0.0.1/0", "128.0.0.0/0", "255.255.255.255/31", "::1/127", "::1/0", "2001:db8::/28", "2001:db8::1/32", "8000::/0",
		"10/8", "10.0.0/8", "010.0.0.0/8", "10.0.0.0.0/8", "256.0.0.0/8", "2001:DB8::/32", "2001:0db8::/32", "2001:db8::0/32", "2001:db8:0:0:0:0:0:0/32", "1::2::/16", "g::/16", "::ffff:1.2.3.4/128",
		"10.0.0.0/８", "10.0.0.0/8é", "10.0.0.0/ĸ", "10.0.0.0／8", "10.0.0.0\u012f8", "é/8", "10.0.0.0/\xff", "10.0.0.0/8\xff", "\xff/8", "10.0.0.0\xff8", "10.0.0.0\xff/8", "10.0.0.0/\xc0\xb8", "::\xc3/0", "::/\xe2\x82",
	} {
		if p, e := addr.ParsePrefix(s); e != api.ErrForm || p != (api.Prefix{}) {
			t.Errorf("ParsePrefix(%q): %v, %v, want ErrForm", s, p, e)
		}
	}
}

func TestHas(t *testing.T) { // P2.5
	for _, a := range []api.Addr{v4(10, 1, 2, 3), full(4), v4(0, 0, 0, 0), v6(0x2001, 0xdb8, 0, 7, 0, 0, 0xabcd, 1), full(16), v6()} {
		for bits := 0; bits <= 8*a.Size; bits++ {
			p, _ := addr.Cut(a, bits)
			if !addr.Has(p, a) || !addr.Has(p, p.Addr) {
				t.Fatalf("%v has not %v", p, a)
			}
			for i := range 8 * a.Size { // just a bit among the first ones counts
				if addr.Has(p, turn(a, i)) != (i >= bits) {
					t.Fatalf("%v, %v with bit %d turned over: %v", p, a, i, i < bits)
				}
			}
		}
	}
}

func TestHasOfOtherSizes(t *testing.T) { // P2.5
	all := append(right(), wrong()...)
	for _, a := range all {
		for _, size := range []int{4, 16} {
			for _, bits := range []int{0, 1, 8, 32} {
				p, _ := addr.Cut(full(size), bits)
				q, _ := addr.Cut(api.Addr{Size: size}, bits)
				want := addr.Right(a) && a.Size == size
				if bits == 0 && (addr.Has(p, a) != want || addr.Has(q, a) != want) || !want && (addr.Has(p, a) || addr.Has(q, a)) {
					t.Errorf("%d bits of %d bytes, and %v: want %v", bits, size, a, want)
				}
			}
		}
	}
}

func TestHasOfWrongPrefixes(t *testing.T) { // P2.5: such a one has none
	some := append(right(), v4(10, 0, 0, 0), v6(1))
	for _, p := range wrongPrefixes() {
		for _, a := range append(some, p.Addr) {
			if addr.Has(p, a) {
				t.Fatalf("%v has %v", p, a)
			}
		}
	}
}

func TestPrefixesLieInOneAnother(t *testing.T) { // P2.8, of all of a small world: four bits, at the edge of two bytes
	world := func(size, n int) api.Addr {
		a := full(size)
		a.B[1], a.B[2] = 0xFC|byte(n>>2), byte(n<<6)
		return a
	}
	for _, size := range []int{4, 16} {
		var all []api.Addr
		for n := range 16 {
			all = append(all, world(size, n))
		}
		for _, a := range all {
			for _, b := range all {
				for x := 10; x <= 20; x++ {
					for y := x; y <= 20; y++ {
						p, _ := addr.Cut(a, x)
						q, _ := addr.Cut(b, y)
						wantApartOrWithin(t, p, q, all)
					}
				}
			}
		}
	}
}

// wantApartOrWithin wants the addresses that two prefixes have to be none in common, or all those of the longer one.
func wantApartOrWithin(t *testing.T, p, q api.Prefix, all []api.Addr) {
	t.Helper()
	common, of := 0, 0
	for _, a := range all {
		if addr.Has(q, a) {
			of++
			if addr.Has(p, a) {
				common++
			}
		}
	}
	if common != 0 && common != of {
		t.Fatalf("%v and %v have %d of %d in common", p, q, common, of)
	}
	if of > 0 && (common > 0) != addr.Has(p, q.Addr) {
		t.Fatalf("%v and %v have %d of %d in common: has it %v?", p, q, common, of, q.Addr)
	}
}
