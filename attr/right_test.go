package attr_test

import (
	"math"
	"slices"
	"testing"

	"vinery/api"
	"vinery/attr"
)

// wantWritten wants attributes to be right, to be written as these, and these to be read as them: also when they are joined and split.
func wantWritten(t *testing.T, a api.Attrs, want ...api.Raw) {
	t.Helper()
	if !attr.Right(a) {
		t.Errorf("Right(%v): false", a)
	}
	l, e := attr.Write(a)
	if e != api.OK || !equalRaws(l, want) {
		t.Errorf("Write(%v): %v, %v, want %v", a, l, e, want)
	}
	wantRead(t, want, a, nil, api.OutOk)
	b, e := attr.Join(l...)
	if e == api.ErrLong && slices.ContainsFunc(l, func(w api.Raw) bool { return len(w.Value) > mostValue }) {
		return
	}
	again, e2 := attr.Split(b)
	if e != api.OK || e2 != api.OK {
		t.Errorf("%v: Join %v, Split %v", a, e, e2)
	}
	wantRead(t, again, a, nil, api.OutOk)
}

// wantOdd wants attributes not to be right, and none to be written.
func wantOdd(t *testing.T, l ...api.Attrs) {
	t.Helper()
	for _, a := range l {
		if attr.Right(a) {
			t.Errorf("Right(%v): true", a)
		}
		if w, e := attr.Write(a); e != api.ErrArg || len(w) != 0 {
			t.Errorf("Write(%v): %v, %v, want ErrArg", a, w, e)
		}
	}
}

// bare is the row of what is written of nothing but one more attribute.
func bare(more ...api.Raw) []api.Raw {
	return rows([]api.Raw{raw(transitive, origin, 0), raw(transitive, path)}, more)
}

// both are nothing and full attributes, changed so.
func both(change func(*api.Attrs)) []api.Attrs {
	l := []api.Attrs{nothing(), full()}
	for i := range l {
		change(&l[i])
	}
	return l
}

// inFull is the row of full attributes with another value of a kind, or without that kind.
func inFull(kind int, value ...byte) []api.Raw {
	l := fullRaws()
	i := slices.IndexFunc(l, func(w api.Raw) bool { return w.Kind == kind })
	l[i].Value = value
	return l
}

func TestNone(t *testing.T) { // P9.2
	if a := attr.None(); !equal(a, nothing()) {
		t.Errorf("None: %v", a)
	}
	wantWritten(t, attr.None(), bare()...)
}

func TestFull(t *testing.T) { // P9.2, P9.5: all of them, and all but one of those that need not be there
	wantWritten(t, full(), fullRaws()...)
	for i, leave := range []func(a *api.Attrs){
		func(a *api.Attrs) { a.Med = -1 },
		func(a *api.Attrs) { a.Pref = -1 },
		func(a *api.Attrs) { a.Originator = api.Addr{} },
		func(a *api.Attrs) { a.Clusters = nil },
		func(a *api.Attrs) { a.Exts = nil },
		func(a *api.Attrs) { a.Tunnels = nil },
	} {
		a := full()
		leave(&a)
		wantWritten(t, a, without(fullRaws(), 2+i)...)
	}
	wantWritten(t, api.Attrs{}, bare(raw(optional, med, 0, 0, 0, 0), raw(transitive, pref, 0, 0, 0, 0))...)
}

func TestEmptyRowsAreNotThere(t *testing.T) { // P9.2, W5
	a := nothing()
	a.Path, a.Clusters, a.Exts, a.Tunnels = []api.Segment{}, []api.Addr{}, []api.Ext{}, []api.Tunnel{}
	wantWritten(t, a, bare()...)
	wantOdd(t, both(func(a *api.Attrs) { a.Path = []api.Segment{{AS: []int{}}} })...)
}

func TestOrigins(t *testing.T) { // P9.2
	for n := range 3 {
		l := both(func(a *api.Attrs) { a.Origin = n })
		wantWritten(t, l[0], raw(transitive, origin, byte(n)), raw(transitive, path))
		wantWritten(t, l[1], inFull(origin, byte(n))...)
	}
	for _, odd := range []int{-1, 3, 4, 255, 256, 257, 258, -254, -256, 1 << 32, math.MinInt, math.MaxInt} {
		wantOdd(t, both(func(a *api.Attrs) { a.Origin = odd })...)
	}
}

func TestNumbers(t *testing.T) { // P9.2
	for _, n := range []int{0, 1, 255, 256, 65536, 1 << 24, 1<<31 - 1, 1 << 31, mostNumber - 1, mostNumber} {
		b := []byte{byte(n >> 24), byte(n >> 16), byte(n >> 8), byte(n)}
		l := both(func(a *api.Attrs) { a.Med = n })
		wantWritten(t, l[0], bare(raw(optional, med, b...))...)
		wantWritten(t, l[1], inFull(med, b...)...)
		l = both(func(a *api.Attrs) { a.Pref = n })
		wantWritten(t, l[0], bare(raw(transitive, pref, b...))...)
		wantWritten(t, l[1], inFull(pref, b...)...)
	}
	for _, odd := range oddNumbers {
		wantOdd(t, both(func(a *api.Attrs) { a.Med = odd })...)
		wantOdd(t, both(func(a *api.Attrs) { a.Pref = odd })...)
	}
}

// segmentBytes are those of a segment whose ASs are below 256.
func segmentBytes(s api.Segment) []byte {
	b := []byte{2, byte(len(s.AS))}
	if s.Set {
		b[0] = 1
	}
	for _, as := range s.AS {
		b = append(b, 0, 0, 0, byte(as))
	}
	return b
}

// pathOf is one of so many segments, of so many ASs each; each other one is a Set.
func pathOf(segments, ases int) ([]api.Segment, []byte) {
	var l []api.Segment
	var b []byte
	for i := range segments {
		s := api.Segment{Set: i%2 == 1}
		for j := range ases {
			s.AS = append(s.AS, (7*i+j)%256)
		}
		l, b = append(l, s), append(b, segmentBytes(s)...)
	}
	return l, b
}

func TestPaths(t *testing.T) { // P9.2, P9.5: no segment, MaxSegments and one more; of 0, 1, MaxPath ASs and one more
	for _, segments := range []int{0, 1, 2, mostSegments - 1, mostSegments, mostSegments + 1, 300} {
		for _, ases := range []int{1, 2, 63, 64, 254, mostAS, mostAS + 1, 512} {
			p, b := pathOf(segments, ases)
			l := both(func(a *api.Attrs) { a.Path = p })
			if segments > mostSegments || ases > mostAS && segments > 0 {
				wantOdd(t, l...)
				continue
			}
			wantWritten(t, l[0], raw(transitive, origin, 0), raw(transitive, path, b...))
			wantWritten(t, l[1], inFull(path, b...)...)
		}
	}
}

func TestOddSegments(t *testing.T) { // P9.2: one in each place, a Set or not
	for _, set := range []bool{false, true} {
		for _, ases := range [][]int{{}, nil, times(mostAS+1, 1), times(511, 1), {-1}, {mostNumber + 1}, {1, 2, -1}, {math.MinInt, 1}, {1, math.MaxInt, 1}, {1 << 32}} {
			for place := range 4 {
				p, _ := pathOf(3, 2)
				p = slices.Insert(p, place, api.Segment{Set: set, AS: ases})
				wantOdd(t, both(func(a *api.Attrs) { a.Path = p })...)
			}
		}
		for _, as := range []int{0, 1, mostNumber, mostNumber - 1, 1 << 31} {
			a := nothing()
			a.Path = []api.Segment{{Set: set, AS: []int{as}}}
			head := byte(2)
			if set {
				head = 1
			}
			wantWritten(t, a, raw(transitive, origin, 0), raw(transitive, path, head, 1, byte(as>>24), byte(as>>16), byte(as>>8), byte(as)))
		}
	}
}

func TestOriginators(t *testing.T) { // P9.2: none, of IPv4; not of IPv6, nor with bytes behind its own
	for _, o := range []api.Addr{four1, {Size: 4}, v4(255, 255, 255, 255), v4(224, 0, 0, 1)} {
		l := both(func(a *api.Attrs) { a.Originator = o })
		wantWritten(t, l[0], bare(raw(optional, originator, o.B[:4]...))...)
		wantWritten(t, l[1], inFull(originator, o.B[:4]...)...)
	}
	for _, odd := range oddAddrs {
		wantOdd(t, both(func(a *api.Attrs) { a.Originator = odd })...)
	}
}

func TestClusters(t *testing.T) { // P9.2: 0, 1, MaxClusters and one more; one that is none of IPv4 among them
	for _, n := range []int{1, 2, mostClusters - 1, mostClusters} {
		l := both(func(a *api.Attrs) { a.Clusters = times(n, four2) })
		wantWritten(t, l[0], bare(raw(optional, clusters, times[byte](n, 10, 0, 0, 2)...))...)
		wantWritten(t, l[1], inFull(clusters, times[byte](n, 10, 0, 0, 2)...)...)
		for _, odd := range append([]api.Addr{{}}, oddAddrs...) {
			for _, place := range []int{0, n / 2, n - 1} {
				c := times(n, four1)
				c[place] = odd
				wantOdd(t, both(func(a *api.Attrs) { a.Clusters = c })...)
			}
		}
	}
	for _, n := range []int{mostClusters + 1, mostClusters + 2, 2 * mostClusters, 1000} {
		wantOdd(t, both(func(a *api.Attrs) { a.Clusters = times(n, four1) })...)
	}
}

func TestExts(t *testing.T) { // P9.2: 0, 1, MaxExts and one more; any eight bytes are one
	for _, e := range []api.Ext{{}, {0, 2, 1, 2, 3, 4, 5, 6}, {255, 255, 255, 255, 255, 255, 255, 255}} {
		for _, n := range []int{1, 2, mostExts - 1, mostExts} {
			l := both(func(a *api.Attrs) { a.Exts = times(n, e) })
			wantWritten(t, l[0], bare(raw(passed, exts, times(n, e[:]...)...))...)
			wantWritten(t, l[1], inFull(exts, times(n, e[:]...)...)...)
		}
		for _, n := range []int{mostExts + 1, mostExts + 2, 2 * mostExts, 1000} {
			wantOdd(t, both(func(a *api.Attrs) { a.Exts = times(n, e) })...)
		}
	}
}

func TestTunnels(t *testing.T) { // P9.2: none, one, two, one that is not right
	copies := api.Tunnel{Kind: api.TunnelCopies, Label: 16, Root: four1}
	for _, c := range []struct {
		t    api.Tunnel
		want []byte
	}{
		{api.Tunnel{}, []byte{0, 0, 0, 0, 0}},
		{copies, []byte{0, 6, 0, 1, 0, 10, 0, 0, 1}},
		{api.Tunnel{Leaf: true, Label: api.MaxLabel}, []byte{1, 0, 255, 255, 240}},
		{api.Tunnel{Kind: api.TunnelMesh, Root: four1, Id: count(64)}, rows([]byte{0, 7, 0, 0, 0, 7, 0, 1, 4, 10, 0, 0, 1, 0, 64}, count(64))},
	} {
		l := both(func(a *api.Attrs) { a.Tunnels = []api.Tunnel{c.t} })
		wantWritten(t, l[0], bare(raw(passed, tunnel, c.want...))...)
		wantWritten(t, l[1], inFull(tunnel, c.want...)...)
		wantOdd(t, both(func(a *api.Attrs) { a.Tunnels = []api.Tunnel{c.t, copies} })...)
		wantOdd(t, both(func(a *api.Attrs) { a.Tunnels = times(3, c.t) })...)
	}
	for _, odd := range []api.Tunnel{{Label: -1}, {Label: api.MaxLabel + 1}, {Kind: 8}, {Kind: -1}, {Kind: api.TunnelCopies}, {Root: four1}, {Kind: api.TunnelMldp, Root: four1, Id: count(65)}, {Kind: api.TunnelSsm, Root: four1, Id: []byte{10, 0, 0, 2}}} {
		wantOdd(t, both(func(a *api.Attrs) { a.Tunnels = []api.Tunnel{odd} })...)
		wantOdd(t, both(func(a *api.Attrs) { a.Tunnels = []api.Tunnel{copies, odd} })...)
	}
}
