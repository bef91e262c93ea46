package mroute_test

import (
	"math"
	"slices"
	"testing"

	"vinery/api"
	"vinery/mroute"
)

// wantTaken wants a route to be taken at the front of bytes, and to be read of them, if there are no more.
func wantTaken(t *testing.T, b []byte, size int, want api.Mroute, n int) {
	t.Helper()
	if m, got, e := mroute.Take(b, size); e != api.OK || m != want || got != n {
		t.Errorf("Take(%v, %d): %v, %d, %v, want %v, %d", b, size, m, got, e, want, n)
	}
	if m, e := mroute.Parse(b, size); n == len(b) && (e != api.OK || m != want) {
		t.Errorf("Parse(%v, %d): %v, %v, want %v", b, size, m, e, want)
	} else if n < len(b) && (e != api.ErrForm || m != api.Mroute{}) {
		t.Errorf("Parse(%v, %d): %v, %v, want ErrForm", b, size, m, e)
	}
}

// wantUntaken wants bytes to be refused, and nothing else to be told of them.
func wantUntaken(t *testing.T, b []byte, size int, want api.Errno) {
	t.Helper()
	if m, n, e := mroute.Take(b, size); e != want || n != 0 || m != (api.Mroute{}) {
		t.Errorf("Take(%v, %d): %v, %d, %v, want %v", b, size, m, n, e, want)
	}
	if m, e := mroute.Parse(b, size); e != want || m != (api.Mroute{}) {
		t.Errorf("Parse(%v, %d): %v, %v, want %v", b, size, m, e, want)
	}
}

// oddSizes are none of an address.
var oddSizes = []int{0, 1, 2, 3, 5, 8, 12, 15, 17, 32, 64, 128, 256, 260, -1, -4, -16, 1<<32 + 4, 1<<32 + 16, math.MinInt, math.MinInt + 4, math.MaxInt}

// rights are some of each kind, of both sizes, with both sizes of From, with what may be none as none.
func rights() []api.Mroute {
	flows := [][2]api.Addr{{source4, group4}, {source6, group6}, {{Size: 4}, {Size: 4, B: [16]byte{239, 255, 255, 255}}}, {{Size: 16}, {Size: 16, B: [16]byte{255}}}}
	some := append([][2]api.Addr{{}, {source4, none}, {source6, none}, {none, group4}, {none, group6}}, flows...)
	var l []api.Mroute
	for _, d := range []api.RD{{}, dist, oddDist} {
		for _, from := range []api.Addr{from4, from6, {Size: 4}, {Size: 16}} {
			l = append(l, api.Mroute{Kind: intra, RD: d, From: from})
			for _, f := range some {
				l = append(l, api.Mroute{Kind: selected, RD: d, Source: f[0], Group: f[1], From: from})
			}
		}
		for _, number := range []int{0, 1, 65000, mostAS} {
			l = append(l, api.Mroute{Kind: inter, RD: d, AS: number})
			for _, f := range flows {
				l = append(l, api.Mroute{Kind: shared, RD: d, AS: number, Source: f[0], Group: f[1]}, api.Mroute{Kind: tree, RD: d, AS: number, Source: f[0], Group: f[1]})
			}
		}
		for _, f := range flows {
			l = append(l, api.Mroute{Kind: active, RD: d, Source: f[0], Group: f[1]})
		}
	}
	return append(l, leaves(l)...)
}

// leaves are the answers to those that are answered.
func leaves(l []api.Mroute) []api.Mroute {
	var out []api.Mroute
	for _, m := range l {
		if b, _ := mroute.Bytes(m); m.Kind == inter || m.Kind == selected {
			out = append(out, api.Mroute{Kind: leaf, Key: string(b), From: from4}, api.Mroute{Kind: leaf, Key: string(b), From: from6})
		}
	}
	return out
}

// written are the bytes of a route that is right.
func written(t *testing.T, m api.Mroute) []byte {
	t.Helper()
	b, e := mroute.Bytes(m)
	if e != api.OK || !mroute.Right(m) {
		t.Fatalf("Bytes(%v): %v, right %v", m, e, mroute.Right(m))
	}
	return b
}

// sizesOf are those that a route's flow lets it be of.
func sizesOf(t *testing.T, m api.Mroute) []int {
	t.Helper()
	_, flow, ok := modelRoute(written(t, m))
	if !ok {
		t.Fatalf("%v: none", m)
	}
	if flow == 0 {
		return []int{4, 16}
	}
	return []int{flow}
}

func TestTakeOddSizes(t *testing.T) { // P7.2: ahead of what the bytes are
	for _, size := range oddSizes {
		wantUntaken(t, nil, size, api.ErrArg)
		wantUntaken(t, []byte{1}, size, api.ErrArg)
		wantUntaken(t, []byte{1, 12, 0}, size, api.ErrArg)
		wantUntaken(t, []byte{9, 0}, size, api.ErrArg)
		for kind := 1; kind <= lastKind; kind++ {
			wantUntaken(t, written(t, right(kind)), size, api.ErrArg)
		}
	}
}

func TestTakeFewBytes(t *testing.T) { // P7.2: none, one, two of them; of each route all beginnings
	for _, size := range []int{4, 16} {
		wantUntaken(t, nil, size, api.ErrEnd)
		wantUntaken(t, []byte{}, size, api.ErrEnd)
		for first := range 256 {
			wantUntaken(t, []byte{byte(first)}, size, api.ErrEnd)
			wantUntaken(t, []byte{byte(first), 0}, size, api.ErrForm)
			for _, n := range []int{1, 2, 12, 127, 128, 255} {
				wantUntaken(t, []byte{byte(first), byte(n)}, size, api.ErrEnd)
				wantUntaken(t, append([]byte{byte(first), byte(n)}, make([]byte, n-1)...), size, api.ErrEnd)
				wantAs(t, append([]byte{byte(first), byte(n)}, make([]byte, n)...), size)
			}
		}
		for _, m := range rights() {
			b := written(t, m)
			for n := range b {
				wantUntaken(t, b[:n], size, api.ErrEnd)
			}
		}
	}
}

func TestTakeAtTheFront(t *testing.T) { // P7.2: more bytes behind it; a size of its own, of the other one
	for _, m := range rights() {
		b := written(t, m)
		for _, size := range []int{4, 16} {
			for _, more := range [][]byte{nil, {}, {0}, {1}, {255}, make([]byte, 300), b} {
				if slices.Contains(sizesOf(t, m), size) {
					wantTaken(t, cat(b, more), size, m, len(b))
				} else {
					wantUntaken(t, cat(b, more), size, api.ErrForm)
				}
			}
		}
	}
}

func TestTakeSecondByte(t *testing.T) { // P7.2: one too few, one too many, though so many bytes are there or are not
	for _, m := range rights() {
		b := written(t, m)
		for _, size := range sizesOf(t, m) {
			few, many := slices.Clone(b), slices.Clone(b)
			few[1]--
			many[1]++
			wantUntaken(t, few, size, api.ErrForm)
			wantUntaken(t, few[:len(few)-1], size, api.ErrForm)
			wantUntaken(t, many, size, api.ErrEnd)
			for _, more := range []byte{0, 1, 4, 255} {
				wantUntaken(t, append(slices.Clone(many), more), size, api.ErrForm)
				wantUntaken(t, append(slices.Clone(many), more, more), size, api.ErrForm)
			}
		}
	}
}

func TestTakeAnyHead(t *testing.T) { // P7.2: each first and each second byte, as the model
	for kind := 1; kind <= lastKind; kind++ {
		b := append(written(t, right(kind)), make([]byte, 300)...)
		for first := range 256 {
			for second := range 256 {
				b[0], b[1] = byte(first), byte(second)
				wantAs(t, b, 4)
			}
		}
	}
}

func TestTakeBits(t *testing.T) { // P7.2: a number of bits of 0, 32, 128 and of others
	for _, m := range rights() {
		at := 10
		switch m.Kind {
		case intra, inter:
			continue
		case leaf:
			if at = 12; m.Key[0] == inter {
				continue
			}
		case shared, tree:
			at = 14
		}
		b := written(t, m)
		for _, place := range []int{at, at + 1 + int(b[at])/8} {
			for bits := range 256 {
				c := slices.Clone(b)
				c[place] = byte(bits)
				wantAs(t, c, 4)
				wantAs(t, c, 16)
			}
		}
	}
}

func TestTakeWholeBits(t *testing.T) { // P7.2: of each number of bits, with as many bytes as hold them
	for _, kind := range flowKinds {
		for bits := range 256 {
			for _, held := range []int{bits / 8, (bits + 7) / 8} {
				b := cat([]byte{byte(kind), 0}, distB)
				if kind == shared || kind == tree {
					b = append(b, as...)
				}
				b = append(append(b, byte(bits)), make([]byte, held)...)
				four, six := cat(b, grp4), cat(b, grp6)
				if kind == selected {
					four, six = cat(four, frm4), cat(six, frm4)
				}
				four[1], six[1] = byte(len(four)-2), byte(len(six)-2)
				wantForm(t, four, 4, bits == 32 || kind == selected && bits == 0)
				wantForm(t, six, 16, bits == 128 || kind == selected && bits == 0)
				wantUntaken(t, four, 16, api.ErrForm)
				wantUntaken(t, six, 4, api.ErrForm)
			}
		}
	}
}

// wantForm wants bytes to be those of a route that is right just if so.
func wantForm(t *testing.T, b []byte, size int, right bool) {
	t.Helper()
	if !right {
		wantUntaken(t, b, size, api.ErrForm)
	} else if m, n, e := mroute.Take(b, size); e != api.OK || n != len(b) || !mroute.Right(m) {
		t.Errorf("Take(%v, %d): %v, %d, %v", b, size, m, n, e)
	}
}

func TestTakeFroms(t *testing.T) { // P7.2: From's bytes are 4 or 16
	for _, kind := range fromKinds {
		b := written(t, right(kind))
		for n := range 40 {
			c := append(slices.Clone(b[:len(b)-4]), make([]byte, n)...)
			c[1] = byte(len(c) - 2)
			wantForm(t, c, 4, n == 4 || n == 16)
		}
	}
}

func TestTakeKeys(t *testing.T) { // P7.2: a key is of RouteInter or RouteSelect, and just the bytes of one
	for kind := 1; kind <= lastKind; kind++ {
		k := written(t, right(kind))
		for _, from := range [][]byte{frm4, frm6} {
			b := cat([]byte{leaf, byte(len(k) + len(from))}, k, from)
			wantForm(t, b, 4, kind == inter || kind == selected)
			for second := range 256 {
				c := slices.Clone(b)
				c[3] = byte(second)
				wantAs(t, c, 4) // of a longer From the key may have some
			}
		}
	}
	wantUntaken(t, cat([]byte{leaf, 4}, frm4), 4, api.ErrForm) // none
	wantUntaken(t, []byte{leaf, 2, 2, 0}, 4, api.ErrForm)
	wantUntaken(t, []byte{leaf, 1, 2}, 4, api.ErrForm)
	wantUntaken(t, cat([]byte{leaf, 14, 2, 12}, distB, as), 4, api.ErrForm) // no From
	deep := frm4
	for len(deep) < 254 { // leaves of leaves
		deep = cat([]byte{leaf, byte(len(deep))}, deep)
	}
	wantUntaken(t, deep, 4, api.ErrForm)
}
