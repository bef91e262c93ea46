package attr_test

import (
	"slices"
	"testing"

	"vinery/api"
	"vinery/pmsi"
)

// wantTaken wants a value to be just one of its kind.
func wantTaken(t *testing.T, kind int, value []byte, want api.Attrs) {
	t.Helper()
	w := raw(flagsOf(kind), kind, value...)
	wantRead(t, []api.Raw{w}, want, nil, api.OutOk)
	if f := flagsOf(kind); f == passed {
		wantRead(t, []api.Raw{raw(f|partial, kind, value...)}, want, nil, api.OutOk)
	}
}

// wantRefused wants a value to be none of its kind: nothing is taken from it, and others are.
func wantRefused(t *testing.T, kind int, values ...[]byte) {
	t.Helper()
	for _, value := range values {
		w := raw(flagsOf(kind), kind, value...)
		wantRead(t, []api.Raw{w}, nothing(), nil, api.OutWithdraw)
		other, says := raw(optional, med, 0, 0, 0, 9), nothing()
		says.Med = 9
		if kind == med {
			other, says = raw(transitive, pref, 0, 0, 0, 9), nothing()
			says.Pref = 9
		}
		wantRead(t, []api.Raw{w, other}, says, nil, api.OutWithdraw)
		wantRead(t, []api.Raw{other, w}, says, nil, api.OutWithdraw)
	}
}

// flagsOf are those of a kind that is known.
func flagsOf(kind int) int {
	for _, s := range shapes {
		if s.kind == kind {
			return s.flags
		}
	}
	return -1
}

func TestReadNothing(t *testing.T) { // P9.3: from None on
	wantRead(t, nil, nothing(), nil, api.OutOk)
	wantRead(t, []api.Raw{}, nothing(), nil, api.OutOk)
}

func TestReadFull(t *testing.T) { // P9.3: in whatever order
	l := fullRaws()
	wantRead(t, l, full(), nil, api.OutOk)
	slices.Reverse(l)
	wantRead(t, l, full(), nil, api.OutOk)
	for range l {
		l = append(l[1:], l[0])
		wantRead(t, l, full(), nil, api.OutOk)
	}
}

func TestReadOrigins(t *testing.T) { // P9.3: one byte, 0 to 2
	for n := range 256 {
		want := nothing()
		want.Origin = n
		if n <= 2 {
			wantTaken(t, origin, []byte{byte(n)}, want)
		} else {
			wantRefused(t, origin, []byte{byte(n)})
		}
	}
	wantRefused(t, origin, []byte{}, nil, []byte{0, 0}, []byte{1, 0}, []byte{0, 1}, []byte{2, 2, 2}, times[byte](300, 0))
}

func TestReadNumbers(t *testing.T) { // P9.3: four bytes
	for _, n := range []int{0, 1, 255, 256, 1 << 24, 1 << 31, mostNumber - 1, mostNumber} {
		b := []byte{byte(n >> 24), byte(n >> 16), byte(n >> 8), byte(n)}
		want := nothing()
		want.Med = n
		wantTaken(t, med, b, want)
		want = nothing()
		want.Pref = n
		wantTaken(t, pref, b, want)
		for _, kind := range []int{med, pref} {
			wantRefused(t, kind, b[:0], b[:1], b[:2], b[:3], append(b, 0), append(b, 9), append(b, b...), append([]byte{0}, b...))
		}
	}
}

func TestReadOriginators(t *testing.T) { // P9.3: an address of IPv4
	for _, o := range []api.Addr{four1, {Size: 4}, v4(255, 255, 255, 255), v4(224, 0, 0, 1)} {
		want := nothing()
		want.Originator = o
		wantTaken(t, originator, o.B[:4], want)
		wantRefused(t, originator, o.B[:0], o.B[:1], o.B[:2], o.B[:3], o.B[:5], o.B[:6], o.B[:8], o.B[:15], o.B[:16])
	}
}

func TestReadClusters(t *testing.T) { // P9.3: 1 to MaxClusters of IPv4
	for _, n := range []int{1, 2, 3, mostClusters - 1, mostClusters} {
		want := nothing()
		var b []byte
		for i := range n {
			want.Clusters = append(want.Clusters, v4(byte(i), 0, 7, byte(255-i)))
			b = append(b, byte(i), 0, 7, byte(255-i))
		}
		wantTaken(t, clusters, b, want)
		wantRefused(t, clusters, b[:4*n-1], b[:4*n-2], b[:4*n-3], append(b, 0), append(b, 0, 0), append(b, 1, 2, 3))
	}
	for _, n := range []int{mostClusters + 1, mostClusters + 2, 2 * mostClusters, 1000} {
		wantRefused(t, clusters, times[byte](n, 10, 0, 0, 2), times[byte](n, 0, 0, 0, 0))
	}
	wantRefused(t, clusters, nil, []byte{}, times[byte](mostClusters+1, 10, 0, 0, 2)[1:], times[byte](mostClusters+1, 10, 0, 0, 2)[3:])
}

func TestReadExts(t *testing.T) { // P9.3: 1 to MaxExts, as they stand
	for _, n := range []int{1, 2, 3, mostExts - 1, mostExts} {
		want := nothing()
		var b []byte
		for i := range n {
			e := api.Ext{0, 2, byte(255 - i), 4, byte(i % 2), 6, 7, 8}
			want.Exts, b = append(want.Exts, e), append(b, e[:]...)
		}
		wantTaken(t, exts, b, want)
		wantRefused(t, exts, b[:8*n-1], b[:8*n-4], b[:8*n-7], append(b, 0), append(b, 1, 2, 3, 4), append(b, 1, 2, 3, 4, 5, 6, 7))
	}
	for _, n := range []int{mostExts + 1, mostExts + 2, 2 * mostExts, 1000} {
		wantRefused(t, exts, times[byte](n, 0, 2, 0, 0, 0, 0, 0, 1), make([]byte, 8*n))
	}
	wantRefused(t, exts, nil, []byte{})
}

func TestReadTunnels(t *testing.T) { // P9.3: just one that is right
	for _, u := range []api.Tunnel{
		{},
		{Leaf: true},
		{Leaf: true, Kind: api.TunnelMldp, Label: api.MaxLabel, Root: six1, Id: count(64)},
		{Kind: api.TunnelRsvp, Root: four1, Id: count(6)},
		{Kind: api.TunnelSsm, Label: 1, Root: four1, Id: []byte{224, 0, 0, 1}},
		{Kind: api.TunnelCopies, Label: 16, Root: four1},
		{Kind: api.TunnelMesh, Root: four1},
	} {
		b, e := pmsi.Bytes(u)
		if e != api.OK {
			t.Fatalf("%v: %v", u, e)
		}
		want := nothing()
		want.Tunnels = []api.Tunnel{u}
		wantTaken(t, tunnel, b, want)
		for n := range b {
			wantRefused(t, tunnel, b[:n])
		}
		wantRefused(t, tunnel, append(slices.Clone(b), 0), append(slices.Clone(b), b...), append([]byte{2}, b[1:]...), append([]byte{b[0], 8}, b[2:]...))
	}
	wantRefused(t, tunnel, []byte{0, 0, 0, 0, 1}, []byte{0, 0, 0, 0, 15}, []byte{2, 0, 0, 0, 0}, []byte{0, 3, 0, 0, 0, 10, 0, 0, 1, 10, 0, 0, 2}, make([]byte, 5000))
}
