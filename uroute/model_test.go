package uroute_test

import (
	"fmt"
	"math/big"
	"math/rand/v2"
	"net/netip"
	"slices"
	"testing"

	"vinery/api"
	"vinery/rd"
	"vinery/uroute"
)

// bitsOf are bytes, each bit as a byte of its own.
func bitsOf(b []byte) []byte {
	var out []byte
	for _, n := range b {
		out = append(out, fmt.Appendf(nil, "%08b", n)...)
	}
	return out
}

// number is what bits are, the highest one first.
func number(bits []byte) int {
	n, _ := new(big.Int).SetString("0"+string(bits), 2)
	return int(n.Int64())
}

// model takes one at the front, bit by bit, as the chapter's words have it.
func model(b []byte, size int) (u api.Uroute, n int, errno api.Errno) {
	if size != 4 && size != 16 {
		return u, 0, api.ErrArg
	}
	if len(b) == 0 || 8*(len(b)-1) < int(b[0]) {
		return u, 0, api.ErrEnd
	}
	for n = 1; 8*(n-1) < int(b[0]); n++ {
	}
	bits, all := bitsOf(b[1:n]), int(b[0])
	if all < 88 || all > 88+8*size || string(bits[20:24]) != "0001" || slices.Contains(bits[all:], '1') {
		return u, 0, api.ErrForm
	}
	u.Label, u.Prefix.Bits, u.Prefix.Addr.Size = number(bits[:20]), all-88, size
	for i := range u.RD {
		u.RD[i] = byte(number(bits[24+8*i:][:8]))
	}
	for i, bit := range bits[88:all] {
		u.Prefix.Addr.B[i/8] |= (bit - '0') << (7 - i%8)
	}
	return u, n, api.OK
}

// modelRight tells of one whether it is, by the library's prefixes.
func modelRight(u api.Uroute) bool {
	if s := u.Prefix.Addr.Size; s != 4 && s != 16 {
		return false
	}
	for _, b := range u.Prefix.Addr.B[u.Prefix.Addr.Size:] {
		if b != 0 {
			return false
		}
	}
	p, ok := theirs(u.Prefix)
	return ok && p == p.Masked() && u.Label >= 0 && u.Label < 1<<20
}

// theirs is the library's prefix: is there one of so many bits?
func theirs(p api.Prefix) (netip.Prefix, bool) {
	a, _ := netip.AddrFromSlice(p.Addr.B[:p.Addr.Size])
	out, err := a.Prefix(p.Bits)
	return netip.PrefixFrom(a, out.Bits()), err == nil
}

// modelText is the text of one that is right, but such as the library writes with points among colons.
func modelText(u api.Uroute) string {
	p, _ := theirs(u.Prefix)
	return fmt.Sprintf("%s %s %d", rd.Text(u.RD), p, u.Label)
}

// modelBytes are those of one that is right.
func modelBytes(u api.Uroute) []byte {
	p, _ := theirs(u.Prefix)
	held := p.Addr().AsSlice()[:(p.Bits()+7)/8]
	return cat([]byte{byte(p.Bits() + 88), byte(u.Label >> 12), byte(u.Label >> 4), byte(u.Label<<4 | 1)}, u.RD[:], held)
}

// pick is one of some.
func pick[T any](r *rand.Rand, l ...T) T { return l[r.IntN(len(l))] }

// someAddr is one, or nearly so.
func someAddr(r *rand.Rand) api.Addr {
	a := full(16, r.IntN(129))
	a.Size = pick(r, 4, 4, 16, 16, 0, 5, 17, -4)
	for range r.IntN(4) {
		a.B[r.IntN(16)] = byte(r.IntN(256))
	}
	if a.Size == 4 && r.IntN(8) > 0 {
		clear(a.B[4:])
	}
	return a
}

// someRoute is one that is often right.
func someRoute(r *rand.Rand) api.Uroute {
	u := api.Uroute{RD: pick(r, dists...), Label: r.IntN(mostLabel + 1), Prefix: prefix(someAddr(r), r.IntN(132)-2)}
	if size := u.Prefix.Addr.Size; size == 4 || size == 16 {
		u.Prefix.Bits = r.IntN(8*size + 1)
		if p, ok := theirs(u.Prefix); ok && r.IntN(5) > 0 {
			copy(u.Prefix.Addr.B[:], p.Masked().Addr().AsSlice())
		}
	}
	if r.IntN(8) == 0 {
		u.Label = pick(r, oddLabels...)
	}
	if r.IntN(8) == 0 {
		u.Prefix.Bits += pick(r, -1, 1, 8, 128, 256)
	}
	return u
}

func TestRoutesAsTheModel(t *testing.T) { // P8.1, P8.4, P8.6: of any routes
	r := rand.New(rand.NewPCG(1, 2))
	right := map[int]int{}
	for range 200000 {
		u := someRoute(r)
		if !modelRight(u) {
			wantOdd(t, u)
			wantText(t, "", u)
			continue
		}
		right[u.Prefix.Addr.Size]++
		wantWritten(t, u, modelBytes(u)...)
		if p, _ := theirs(u.Prefix); !p.Addr().Is4In6() {
			wantText(t, modelText(u), u)
		}
		v := someRoute(r)
		wantOrder(t, u, v, modelOrder(u, v))
	}
	if right[4] < 10000 || right[16] < 10000 {
		t.Errorf("right were just %v", right)
	}
}

// bend changes some bytes: in a place, at the end.
func bend(r *rand.Rand, b []byte) []byte {
	b = slices.Clone(b)
	switch r.IntN(4) {
	case 0:
		b[r.IntN(len(b))] = byte(r.IntN(256))
	case 1:
		b[r.IntN(len(b))] ^= 1 << r.IntN(8)
	case 2:
		b = b[:r.IntN(len(b))]
	default:
		b[0] += byte(r.IntN(17) - 8)
	}
	return b
}

func TestTakeAsTheModel(t *testing.T) { // P8.2, P8.6: in any bytes
	r := rand.New(rand.NewPCG(3, 4))
	taken, odd := 0, 0
	for range 100000 {
		u := someRoute(r)
		if !modelRight(u) {
			continue
		}
		b := bend(r, modelBytes(u))
		if r.IntN(2) == 0 {
			b = append(b, byte(r.IntN(256)), byte(r.IntN(256)))
		}
		if wantAs(t, b, pick(r, 4, 16)) {
			taken++
		} else {
			odd++
		}
	}
	if taken < 10000 || odd < 10000 {
		t.Errorf("%d were taken, %d were not", taken, odd)
	}
}

func TestRowsAsTheModel(t *testing.T) { // P8.3, P8.6: rows too
	r := rand.New(rand.NewPCG(5, 6))
	for range 5000 {
		var l []api.Uroute
		var b []byte
		size := pick(r, 4, 16)
		for range r.IntN(6) {
			if u := someRoute(r); modelRight(u) && u.Prefix.Addr.Size == size {
				l, b = append(l, u), append(b, modelBytes(u)...)
			}
		}
		wantRow(t, size, b, l...)
		if len(b) > 0 {
			wantRowAs(t, bend(r, b), size)
		}
	}
}

// wantRowAs wants a row to be read as the model takes one behind another.
func wantRowAs(t *testing.T, b []byte, size int) {
	t.Helper()
	var want []api.Uroute
	wrong := api.OK
	for rest := b; len(rest) > 0 && wrong == api.OK; {
		u, n, errno := model(rest, size)
		want, rest, wrong = append(want, u), rest[n:], errno
	}
	if wrong != api.OK {
		want = nil
	}
	if l, e := uroute.ReadRow(b, size); e != wrong || !slices.Equal(l, want) {
		t.Fatalf("ReadRow(%v, %d): %v, %v, want %v, %v", b, size, l, e, want, wrong)
	}
}
