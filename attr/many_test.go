package attr_test

import (
	"bytes"
	"math/rand/v2"
	"slices"
	"testing"

	"vinery/api"
	"vinery/attr"
)

// pick is one of some.
func pick[T any](r *rand.Rand, l ...T) T { return l[r.IntN(len(l))] }

// some is a row of up to so many.
func some[T any](r *rand.Rand, most int, one func() T) []T {
	var l []T
	for range r.IntN(most + 1) {
		l = append(l, one())
	}
	return l
}

// seldom is true once in so many times.
func seldom(r *rand.Rand, often int) bool { return r.IntN(often) == 0 }

// someTunnel is one that is right, or nearly so.
func someTunnel(r *rand.Rand) api.Tunnel {
	u := api.Tunnel{Leaf: seldom(r, 2), Kind: pick(r, 0, 2, 6, 7), Label: pick(r, 0, 16, 1<<20-1)}
	if u.Kind != 0 {
		u.Root = pick(r, four1, four2, six1)
	}
	if u.Kind == 2 || u.Kind == 7 {
		u.Id = count(pick(r, 0, 1, 6, 64))
	}
	if seldom(r, 8) {
		u.Kind, u.Label = pick(r, u.Kind, 1, 3, 8), pick(r, u.Label, -1, 1<<20)
	}
	return u
}

// someAttrs are right, or nearly so.
func someAttrs(r *rand.Rand) api.Attrs {
	number := func() int { return pick(r, 0, 1, r.IntN(1<<32), mostNumber) }
	segment := func() api.Segment { return api.Segment{Set: seldom(r, 2), AS: append(some(r, 4, number), number())} }
	address := func() api.Addr { return v4(byte(r.IntN(256)), byte(r.IntN(256)), 0, byte(r.IntN(256))) }
	ext := func() api.Ext { return api.Ext{byte(r.IntN(3)), 2, byte(r.IntN(256)), 7: byte(r.IntN(256))} }
	a := api.Attrs{
		Origin:     r.IntN(3),
		Path:       some(r, pick(r, 0, 3, mostSegments), segment),
		Med:        pick(r, -1, number()),
		Pref:       pick(r, -1, number()),
		Originator: pick(r, api.Addr{}, address()),
		Clusters:   some(r, pick(r, 0, 4, mostClusters), address),
		Exts:       some(r, pick(r, 0, 4, mostExts), ext),
		Tunnels:    some(r, 1, func() api.Tunnel { return someTunnel(r) }),
	}
	if seldom(r, 3) {
		mar(r, &a)
	}
	return a
}

// mar changes one thing, often so that attributes are not right.
func mar(r *rand.Rand, a *api.Attrs) {
	odd := pick(r, -1, 0, 3, mostNumber, mostNumber+1, -2, 1<<40)
	switch r.IntN(8) {
	case 0:
		a.Origin = odd
	case 1:
		a.Med = odd
	case 2:
		a.Pref = odd
	case 3:
		a.Originator = pick(r, oddAddrs...)
	case 4:
		a.Clusters = append(a.Clusters, times(pick(r, 1, mostClusters, mostClusters+1), pick(r, append(oddAddrs, four1)...))...)
	case 5:
		a.Exts = append(a.Exts, times(pick(r, 1, mostExts, mostExts+1), api.Ext{9})...)
	case 6:
		a.Path = append(a.Path, api.Segment{AS: pick(r, nil, []int{odd}, []int{1, odd}, times(mostAS, 1), times(mostAS+1, 1))})
	default:
		a.Tunnels = append(a.Tunnels, someTunnel(r))
	}
}

func TestAttrsAsTheModel(t *testing.T) { // P9.2, P9.5: of any attributes
	r := rand.New(rand.NewPCG(1, 2))
	right, odd := 0, 0
	for range 60000 {
		a, b := someAttrs(r), someAttrs(r)
		wantSame(t, equal(a, b), a, b)
		wantSame(t, true, a, deep(a))
		if modelRight(a) {
			right++
			wantWritten(t, a, modelWrite(a)...)
		} else {
			odd++
			wantOdd(t, a)
		}
		if t.Failed() {
			t.FailNow()
		}
	}
	if right < 10000 || odd < 5000 {
		t.Errorf("just %d were right, %d were not", right, odd)
	}
}

// bend changes some bytes: in a place, at the end.
func bend(r *rand.Rand, b []byte) []byte {
	b = slices.Clone(b)
	n := len(b)
	switch r.IntN(4) {
	case 0:
		return append(b, byte(r.IntN(4)))
	case 1:
		return b[:r.IntN(n+1)]
	case 2:
		if n > 0 {
			b[r.IntN(n)] = byte(r.IntN(6))
		}
	default:
		if n > 0 {
			b[r.IntN(n)] ^= 1 << r.IntN(8)
		}
	}
	return b
}

// someRaw is an attribute that is often none of the table's.
func someRaw(r *rand.Rand) api.Raw {
	bits := func() int { return r.IntN(16) * 16 }
	switch r.IntN(6) {
	case 0:
		return raw(pick(r, bits(), optional, passed), pick(r, unknowns...), byte(r.IntN(4)))
	case 1:
		return raw(pick(r, bits(), optional, optional), pick(r, reach, unreach), byte(r.IntN(4)))
	}
	s := pick(r, shapes...)
	w := raw(s.flags, s.kind, pick(r, s.one, s.another, s.none)...)
	if seldom(r, 4) {
		w.Flags = pick(r, bits(), w.Flags|partial)
	}
	if seldom(r, 4) {
		w.Value = bend(r, w.Value)
	}
	return w
}

// someRow are attributes that were written, some bent, some others among them.
func someRow(r *rand.Rand) []api.Raw {
	a := someAttrs(r)
	var l []api.Raw
	if modelRight(a) {
		l = modelWrite(a)
	}
	for range r.IntN(4) {
		l = slices.Insert(l, r.IntN(len(l)+1), someRaw(r))
	}
	if len(l) > 0 && seldom(r, 3) {
		i := r.IntN(len(l))
		l[i].Value = bend(r, l[i].Value)
	}
	r.Shuffle(len(l), func(i, j int) {
		if seldom(r, 2) {
			l[i], l[j] = l[j], l[i]
		}
	})
	return l
}

func TestReadAsTheModel(t *testing.T) { // P9.3: of any attributes as they came; what is read is right
	r := rand.New(rand.NewPCG(3, 4))
	outs := [4]int{}
	for range 120000 {
		l := someRow(r)
		want, rest, out := modelRead(l)
		outs[out]++
		wantRead(t, l, want, rest, out)
		if a, _, _ := attr.Read(l); !attr.Right(a) {
			t.Errorf("Read(%v): %v, which is not right", l, a)
		}
		if t.Failed() {
			t.FailNow()
		}
	}
	for out, n := range outs {
		if n < 5000 {
			t.Errorf("just %d had the outcome %d", n, out)
		}
	}
}

// someBytes are attributes in bytes, often bent, with counts that are longer than need be.
func someBytes(r *rand.Rand) []byte {
	var b []byte
	for range pick(r, r.IntN(5), r.IntN(5), mostAttrs-1, mostAttrs, mostAttrs+1) {
		value := count(pick(r, 0, 0, 1, 2, 4, 9, pick(r, 3, 254, 255, 256, 700)))
		flags := byte(r.IntN(256))
		if len(value) > 255 {
			flags |= long
		}
		b = append(b, flags, byte(r.IntN(256)))
		if flags&long != 0 {
			b = append(b, byte(len(value)>>8))
		}
		b = append(append(b, byte(len(value))), value...)
	}
	if seldom(r, 2) {
		b = bend(r, b)
	}
	return b
}

func TestSplitAsTheModel(t *testing.T) { // P9.1, P9.6: of any bytes
	r := rand.New(rand.NewPCG(5, 6))
	outs := map[api.Errno]int{}
	for range 30000 {
		b := someBytes(r)
		want, errno := modelSplit(b)
		outs[errno]++
		if errno != api.OK {
			wantNoSplit(t, errno, b...)
			continue
		}
		wantSplit(t, b, want...)
		joined, e := attr.Join(want...)
		if e != api.OK || len(joined) > len(b) {
			t.Fatalf("Join(%v): %v, %v", want, joined, e)
		}
		wantSplit(t, joined, want...)
		shortest := true
		for _, w := range want {
			shortest = shortest && len(w.Value) > 255
		}
		if len(joined) == len(b) != bytes.Equal(joined, b) || shortest && !bytes.Equal(joined, b) {
			t.Fatalf("Join(%v): %v, want %v", want, joined, b)
		}
	}
	if len(outs) != 3 || outs[api.OK] < 5000 || outs[api.ErrEnd] < 2000 || outs[api.ErrLong] < 2000 {
		t.Errorf("just %v", outs)
	}
}
