package mroute_test

import (
	"bytes"
	"testing"

	"vinery/api"
	"vinery/mroute"
)

// wantOrder wants two to stand so, either way round.
func wantOrder(t *testing.T, a, b api.Mroute, want int) {
	t.Helper()
	if n, m := mroute.Compare(a, b), mroute.Compare(b, a); n != want || m != -want {
		t.Errorf("Compare(%v, %v): %d, and %d the other way round, want %d", a, b, n, m, want)
	}
}

func TestCompare(t *testing.T) { // P7.4, P7.9: each with each, by their bytes; alike just if they are the same
	l := rights()
	rows := make([][]byte, len(l))
	for i, m := range l {
		rows[i] = written(t, m)
	}
	for i, a := range l {
		for j, b := range l[:i+1] {
			want := bytes.Compare(rows[i], rows[j])
			if (want == 0) != (a == b) {
				t.Errorf("%v, %v: by bytes %d", a, b, want)
			}
			wantOrder(t, a, b, want)
		}
	}
}

func TestCompareByBytes(t *testing.T) { // P7.4: by Kind, then by how many bytes follow, then by these
	less := func(a, b api.Mroute) { t.Helper(); wantOrder(t, a, b, -1) }
	for kind := 1; kind < lastKind; kind++ {
		less(right(kind), right(kind+1))
	}
	long := api.Mroute{Kind: intra, From: from6}
	less(right(intra), long)
	less(api.Mroute{Kind: inter, RD: dist, AS: 255}, api.Mroute{Kind: inter, RD: dist, AS: 256})
	less(api.Mroute{Kind: inter, RD: dist, AS: 1<<31 - 1}, api.Mroute{Kind: inter, RD: dist, AS: 1 << 31})
	less(api.Mroute{Kind: inter, RD: api.RD{0, 1}, AS: mostAS}, api.Mroute{Kind: inter, RD: api.RD{0, 2}})
	less(api.Mroute{Kind: inter, RD: api.RD{127}}, api.Mroute{Kind: inter, RD: api.RD{128}})
}

func TestCompareOdd(t *testing.T) { // P7.4: those that are not right stand ahead, alike
	l := append(odds(), api.Mroute{})
	for _, a := range l {
		for kind := 1; kind <= lastKind; kind++ {
			wantOrder(t, a, right(kind), -1)
		}
		wantOrder(t, a, api.Mroute{Kind: intra, From: api.Addr{Size: 4}}, -1)
		for _, b := range l[:40] {
			wantOrder(t, a, b, 0)
		}
	}
}

func TestTextsAreUnlike(t *testing.T) { // P7.9
	of := map[string]api.Mroute{}
	for _, m := range rights() {
		s := mroute.Text(m)
		if was, found := of[s]; found && was != m || s == "" {
			t.Errorf("%v, %v: both %q", m, was, s)
		}
		of[s] = m
	}
}

func TestPairs(t *testing.T) { // P7.9: of routes that are unlike in one place alone
	for _, m := range rights() {
		b := written(t, m)
		for at := range b {
			for _, flip := range []byte{1, 2, 128} {
				c := bytes.Clone(b)
				c[at] ^= flip
				for _, size := range []int{4, 16} {
					o, e := mroute.Parse(c, size)
					if e != api.OK {
						continue
					}
					wantOrder(t, m, o, bytes.Compare(b, c))
					if o == m || mroute.Text(o) == mroute.Text(m) {
						t.Errorf("%v, %v: the same, or of one text", o, m)
					}
				}
			}
		}
	}
}
