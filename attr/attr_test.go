package attr_test

import (
	"bytes"
	"math"
	"slices"
	"testing"

	"vinery/api"
	"vinery/attr"
)

var (
	_ func([]byte) ([]api.Raw, api.Errno)         = attr.Split
	_ func(...api.Raw) ([]byte, api.Errno)        = attr.Join
	_ func(api.Attrs) bool                        = attr.Right
	_ func(api.Attrs) ([]api.Raw, api.Errno)      = attr.Write
	_ func() api.Attrs                            = attr.None
	_ func([]api.Raw) (api.Attrs, []api.Raw, int) = attr.Read
	_ func(a, b api.Attrs) bool                   = attr.Same
)

// The limits of attributes, as the document's numbers; below: package api tells the same.
const (
	mostAS       = 255
	mostSegments = 16
	mostExts     = 64
	mostClusters = 32
	mostValue    = 4096
	mostAttrs    = 64
	mostNumber   = 1<<32 - 1
)

var (
	_ [0]struct{} = [api.MaxPath - mostAS]struct{}{}
	_ [0]struct{} = [api.MaxSegments - mostSegments]struct{}{}
	_ [0]struct{} = [api.MaxExts - mostExts]struct{}{}
	_ [0]struct{} = [api.MaxClusters - mostClusters]struct{}{}
	_ [0]struct{} = [api.MaxValue - mostValue]struct{}{}
	_ [0]struct{} = [api.MaxAttrs - mostAttrs]struct{}{}
)

// The flags, and what attributes have of them.
const (
	optional   = 128
	transitive = 64
	partial    = 32
	long       = 16
	passed     = optional | transitive
)

// The kinds, by their numbers.
const (
	origin     = 1
	path       = 2
	med        = 4
	pref       = 5
	originator = 9
	clusters   = 10
	reach      = 14
	unreach    = 15
	exts       = 16
	tunnel     = 22
)

// shapes are the kinds that are known, rising: with their flags, a value that is one, another one, and one that is not.
var shapes = []struct {
	kind, flags        int
	one, another, none []byte
}{
	{origin, transitive, []byte{1}, []byte{2}, []byte{3}},
	{path, transitive, []byte{2, 1, 0, 0, 0, 7}, []byte{}, []byte{2, 0}},
	{med, optional, []byte{0, 0, 0, 9}, []byte{1, 2, 3, 4}, []byte{0, 0, 9}},
	{pref, transitive, []byte{0, 0, 0, 100}, []byte{255, 255, 255, 255}, []byte{0, 0, 0, 0, 100}},
	{originator, optional, []byte{10, 0, 0, 1}, []byte{0, 0, 0, 0}, []byte{}},
	{clusters, optional, []byte{10, 0, 0, 2}, []byte{10, 0, 0, 3, 10, 0, 0, 4}, []byte{10, 0, 0, 2, 10}},
	{exts, passed, []byte{0, 2, 1, 2, 3, 4, 5, 6}, []byte{9, 9, 9, 9, 9, 9, 9, 9}, []byte{0, 2, 1, 2, 3, 4, 5}},
	{tunnel, passed, []byte{0, 6, 0, 1, 0, 10, 0, 0, 1}, []byte{0, 0, 0, 0, 0}, []byte{0, 8, 0, 1, 0}},
}

// unknowns are kinds that are none of the table's, nor such as tell routes.
var unknowns = []int{0, 3, 6, 7, 8, 11, 12, 13, 17, 21, 23, 77, 128, 254, 255, 256, 257, 258, 270, 271, 278, -1, -2, -15, -255, -254, 1 << 32, 1<<32 + 1, 1<<32 + 14, 1<<32 + 15, math.MinInt, math.MinInt + 1, math.MaxInt}

// oddNumbers are none of four bytes.
var oddNumbers = []int{-2, -3, mostNumber + 1, mostNumber + 2, 1 << 33, 1 << 40, 1 << 62, -1 << 32, 1 - 1<<32, math.MinInt, math.MinInt + 1, math.MaxInt, math.MaxInt - 1}

// Addresses.
var (
	four1    = v4(10, 0, 0, 1)
	four2    = v4(10, 0, 0, 2)
	six1     = api.Addr{Size: 16, B: [16]byte{32, 1, 13, 184, 15: 1}}
	oddAddrs = []api.Addr{six1, {Size: 16}, {Size: 4, B: [16]byte{10, 0, 0, 1, 1}}, {Size: 4, B: [16]byte{15: 1}}, {B: [16]byte{1}}, {B: [16]byte{15: 1}}, {Size: 1}, {Size: 3}, {Size: 5}, {Size: 8}, {Size: 17}, {Size: -4}, {Size: 260}, {Size: 1<<32 + 4}, {Size: math.MinInt}, {Size: math.MaxInt}}
)

func v4(a, b, c, d byte) api.Addr { return api.Addr{Size: 4, B: [16]byte{a, b, c, d}} }

// raw is an attribute as it came.
func raw(flags, kind int, value ...byte) api.Raw {
	return api.Raw{Flags: flags, Kind: kind, Value: value}
}

// times is a row, so often.
func times[T any](n int, l ...T) []T { return slices.Repeat(l, n) }

// count is a row of so many bytes, none of which is 0.
func count(n int) []byte {
	b := make([]byte, n)
	for i := range b {
		b[i] = byte(1 + i%255)
	}
	return b
}

// nothing are the attributes of which none is there.
func nothing() api.Attrs { return api.Attrs{Med: -1, Pref: -1} }

// full are attributes all of which are there.
func full() api.Attrs {
	return api.Attrs{
		Origin:     1,
		Path:       []api.Segment{{AS: []int{65000, 4200000000}}, {Set: true, AS: []int{1}}, {AS: []int{0, mostNumber, 258}}},
		Med:        9,
		Pref:       100,
		Originator: four1,
		Clusters:   []api.Addr{four2, four1},
		Exts:       []api.Ext{{0, 2, 1, 2, 3, 4, 5, 6}, {9, 8, 7, 6, 5, 4, 3, 2}},
		Tunnels:    []api.Tunnel{{Leaf: true, Kind: api.TunnelMldp, Label: 17, Root: four1, Id: []byte{1, 2}}},
	}
}

// fullRaws are those as they are written.
func fullRaws() []api.Raw {
	return []api.Raw{
		raw(transitive, origin, 1),
		raw(transitive, path, 2, 2, 0, 0, 253, 232, 250, 86, 234, 0, 1, 1, 0, 0, 0, 1, 2, 3, 0, 0, 0, 0, 255, 255, 255, 255, 0, 0, 1, 2),
		raw(optional, med, 0, 0, 0, 9),
		raw(transitive, pref, 0, 0, 0, 100),
		raw(optional, originator, 10, 0, 0, 1),
		raw(optional, clusters, 10, 0, 0, 2, 10, 0, 0, 1),
		raw(passed, exts, 0, 2, 1, 2, 3, 4, 5, 6, 9, 8, 7, 6, 5, 4, 3, 2),
		raw(passed, tunnel, 1, 2, 0, 1, 16, 6, 0, 1, 4, 10, 0, 0, 1, 0, 2, 1, 2),
	}
}

// equal tells whether attributes tell the same in all their fields.
func equal(a, b api.Attrs) bool {
	segment := func(x, y api.Segment) bool { return x.Set == y.Set && slices.Equal(x.AS, y.AS) }
	tunnel := func(x, y api.Tunnel) bool {
		return x.Leaf == y.Leaf && x.Kind == y.Kind && x.Label == y.Label && x.Root == y.Root && string(x.Id) == string(y.Id)
	}
	return a.Origin == b.Origin && a.Med == b.Med && a.Pref == b.Pref && a.Originator == b.Originator &&
		slices.EqualFunc(a.Path, b.Path, segment) && slices.Equal(a.Clusters, b.Clusters) &&
		slices.Equal(a.Exts, b.Exts) && slices.EqualFunc(a.Tunnels, b.Tunnels, tunnel)
}

// equalRaws tells whether rows of attributes as they came are the same.
func equalRaws(a, b []api.Raw) bool {
	return slices.EqualFunc(a, b, func(x, y api.Raw) bool {
		return x.Flags == y.Flags && x.Kind == y.Kind && bytes.Equal(x.Value, y.Value)
	})
}

// wantRead wants attributes to say this, to leave those, and to have this outcome.
func wantRead(t *testing.T, l []api.Raw, want api.Attrs, rest []api.Raw, out int) {
	t.Helper()
	a, left, o := attr.Read(l)
	if !equal(a, want) || !equalRaws(left, rest) || o != out {
		t.Errorf("Read(%v): %v, %v, %d, want %v, %v, %d", l, a, left, o, want, rest, out)
	}
}

// without are all but the one at a place.
func without[T any](l []T, place int) []T { return slices.Delete(slices.Clone(l), place, place+1) }

// rows are rows, one behind another.
func rows[T any](l ...[]T) []T { return slices.Concat(l...) }
