package uroute_test

import (
	"bytes"
	"cmp"
	"testing"

	"vinery/api"
	"vinery/uroute"
)

// wantOrder wants two to stand so, either way round, and to have one name just if neither stands ahead.
func wantOrder(t *testing.T, a, b api.Uroute, want int) {
	t.Helper()
	if n, m := uroute.Compare(a, b), uroute.Compare(b, a); n != want || m != -want {
		t.Errorf("Compare(%v, %v): %d, and %d the other way round, want %d", a, b, n, m, want)
	}
	if x, y := uroute.Same(a, b), uroute.Same(b, a); x != (want == 0) || y != x {
		t.Errorf("Same(%v, %v): %v, and %v the other way round", a, b, x, y)
	}
}

// modelOrder is how two stand, by the chapter's words.
func modelOrder(a, b api.Uroute) int {
	x, y := a.Prefix, b.Prefix
	switch {
	case a.RD != b.RD:
		return bytes.Compare(a.RD[:], b.RD[:])
	case x.Addr.Size != y.Addr.Size:
		return cmp.Compare(x.Addr.Size, y.Addr.Size)
	case x.Addr.B != y.Addr.B:
		return bytes.Compare(x.Addr.B[:], y.Addr.B[:])
	}
	return cmp.Compare(x.Bits, y.Bits)
}

func TestCompareInOneThing(t *testing.T) { // P8.4: in the distinguisher alone, in the address alone, in the bits alone
	u := api.Uroute{RD: dist, Prefix: prefix(v4(10, 1), 16), Label: 16}
	wantOrder(t, u, u, 0)
	for at := range 8 {
		v := u
		v.RD[at] = 200
		wantOrder(t, u, v, -1)
	}
	for at := range 16 { // those behind a small address too: it is not right, but has a place
		v := u
		v.Prefix.Addr.B[at] = 200
		wantOrder(t, u, v, -1)
	}
	for bits := -20; bits < 150; bits++ {
		v := u
		v.Prefix.Bits = bits
		wantOrder(t, u, v, cmp.Compare(16, bits))
	}
	for size := -20; size < 20; size++ {
		v := u
		v.Prefix.Addr.Size = size
		wantOrder(t, u, v, cmp.Compare(4, size))
	}
}

func TestCompareByWhatFirst(t *testing.T) { // P8.4: the distinguisher, then the address, then the bits
	least := api.Uroute{RD: dist, Prefix: prefix(v4(10, 1), 16)}
	byRD := api.Uroute{RD: oddDist, Prefix: prefix(v4(), 0)}
	bySize := api.Uroute{RD: dist, Prefix: prefix(v6(), 0)}
	byAddr := api.Uroute{RD: dist, Prefix: prefix(v4(11), 8)}
	byBits := api.Uroute{RD: dist, Prefix: prefix(v4(10, 1), 17)}
	for _, v := range []api.Uroute{byRD, bySize, byAddr, byBits} {
		wantOrder(t, least, v, -1)
	}
	wantOrder(t, bySize, byRD, -1)
	wantOrder(t, byAddr, byRD, -1)
	wantOrder(t, byAddr, bySize, -1)
	wantOrder(t, byBits, byAddr, -1)
	wantOrder(t, api.Uroute{RD: api.RD{127}}, api.Uroute{RD: api.RD{128}}, -1) // bytes, not signed
	wantOrder(t, api.Uroute{Prefix: prefix(v4(127), 8)}, api.Uroute{Prefix: prefix(v4(128), 8)}, -1)
}

func TestLabelsAreInNoName(t *testing.T) { // P8.4, P8.7: right or not
	for _, u := range append(rights(), odds()...) {
		for _, n := range append(labels, oddLabels...) {
			v := u
			v.Label = n
			wantOrder(t, u, v, 0)
		}
	}
}

func TestCompareEach(t *testing.T) { // P8.4: each with each, of those that are right and of those that are not
	l := append(rights(), odds()...)
	for i, a := range l {
		for _, b := range l[:i+1] {
			wantOrder(t, a, b, modelOrder(a, b))
		}
	}
}

func TestCompareIsAnOrder(t *testing.T) { // P8.7: on triples
	var l []api.Uroute
	for _, d := range []api.RD{{}, dist, allDist} {
		for _, p := range []api.Prefix{{}, prefix(v4(), 0), prefix(v4(), 32), prefix(v4(10), 8), prefix(v4(10), 9), prefix(v6(), 0), prefix(v6(10), 8), prefix(v4(10, 1), 8), prefix(v4(10), -1), prefix(api.Addr{Size: 5}, 8), prefix(api.Addr{Size: 4, B: [16]byte{5: 1}}, 8)} {
			l = append(l, api.Uroute{RD: d, Prefix: p, Label: 16}, api.Uroute{RD: d, Prefix: p, Label: -1})
		}
	}
	for _, a := range l {
		for _, b := range l {
			ab := uroute.Compare(a, b)
			if ab < -1 || ab > 1 || ab != -uroute.Compare(b, a) {
				t.Fatalf("%v, %v: %d, and %d the other way round", a, b, ab, uroute.Compare(b, a))
			}
			if (ab == 0) != (a.RD == b.RD && a.Prefix == b.Prefix) || uroute.Same(a, b) != (ab == 0) {
				t.Fatalf("%v, %v: %d, one name %v", a, b, ab, uroute.Same(a, b))
			}
			for _, c := range l {
				if bc := uroute.Compare(b, c); ab <= 0 && bc <= 0 && uroute.Compare(a, c) != min(ab, bc) {
					t.Fatalf("%v, %v, %v do not stand one behind the other", a, b, c)
				}
			}
		}
	}
}

// wantText wants a route to have this text.
func wantText(t *testing.T, want string, u api.Uroute) {
	t.Helper()
	if s := uroute.Text(u); s != want {
		t.Errorf("Text(%v): %q, want %q", u, s, want)
	}
}

func TestText(t *testing.T) { // P8.4
	wantText(t, "0:1:1 10.1.0.0/16 16", api.Uroute{RD: dist, Prefix: prefix(v4(10, 1), 16), Label: 16})
	wantText(t, "0:0:0 0.0.0.0/0 0", api.Uroute{Prefix: prefix(v4(), 0)})
	wantText(t, "0:0:0 ::/0 1048575", api.Uroute{Prefix: prefix(v6(), 0), Label: mostLabel})
	wantText(t, "1:10.0.0.9:7 2001:db8::/32 17", api.Uroute{RD: dists[2], Prefix: prefix(v6(32, 1, 13, 184), 32), Label: 17})
	wantText(t, "2:4200000000:7 255.255.255.255/32 100000", api.Uroute{RD: dists[3], Prefix: prefix(full(4, 32), 32), Label: 100000})
	wantText(t, "?:0009fffefdfcfbfa 10.1.128.0/17 3", api.Uroute{RD: oddDist, Prefix: prefix(v4(10, 1, 128), 17), Label: 3})
}

func TestTexts(t *testing.T) { // P8.4: those that are right have unlike ones; those that are not have none
	of := map[string]api.Uroute{}
	for _, u := range rights() {
		s := uroute.Text(u)
		if was, found := of[s]; found && was != u || s != modelText(u) {
			t.Errorf("Text(%v): %q, want %q, as one of %v", u, s, modelText(u), was)
		}
		of[s] = u
	}
	for _, u := range odds() {
		wantText(t, "", u)
	}
}
