package mroute

import (
	"vinery/addr"
	"vinery/api"
	"vinery/cursor"
)

// The parts of routes, in the order that they stand in.
const (
	partRD = iota
	partAS
	partSource
	partGroup
	partKey
	partFrom
	allParts
)

// How many bytes tell a route's kind and how many follow, and an AS.
const (
	headSize = 2
	asSize   = 4
)

// The sizes of a flow's addresses.
const (
	sizeFour = 4
	sizeSix  = 16
)

// named tells of each kind which parts it names.
var named = [...][allParts]bool{
	api.RouteIntra:  {partRD: true, partFrom: true},
	api.RouteInter:  {partRD: true, partAS: true},
	api.RouteSelect: {partRD: true, partSource: true, partGroup: true, partFrom: true},
	api.RouteLeaf:   {partKey: true, partFrom: true},
	api.RouteActive: {partRD: true, partSource: true, partGroup: true},
	api.RouteShared: {partRD: true, partAS: true, partSource: true, partGroup: true},
	api.RouteTree:   {partRD: true, partAS: true, partSource: true, partGroup: true},
}

// names are those that a kind names: none, if it is not known.
func names(kind int) [allParts]bool {
	if kind < 0 || kind >= len(named) {
		return [allParts]bool{}
	}
	return named[kind]
}

func known(kind int) bool { return names(kind) != [allParts]bool{} }

// write is one in bytes: these tell all of it, if it is right.
func write(m api.Mroute) []byte {
	var b []byte
	writers := writersOf(m)
	for part, has := range names(m.Kind) {
		if has {
			b = append(b, writers[part]()...)
		}
	}
	return append([]byte{byte(m.Kind), byte(len(b))}, b...)
}

// read is the one that bytes would be: whether they are, is told by writing it again.
func read(b []byte) api.Mroute {
	r := cursor.Open(b)
	m := api.Mroute{Kind: r.Num(1)}
	r.Num(1)
	readers := readersOf(r, &m)
	for part, has := range names(m.Kind) {
		if has {
			readers[part]()
		}
	}
	return m
}

// writersOf are what writes each part of a route.
func writersOf(m api.Mroute) [allParts]func() []byte {
	return [allParts]func() []byte{
		partRD:     func() []byte { return m.RD[:] },
		partAS:     func() []byte { b, _ := cursor.Put(nil, m.AS, asSize); return b },
		partSource: func() []byte { return withBits(m.Source) },
		partGroup:  func() []byte { return withBits(m.Group) },
		partKey:    func() []byte { return []byte(m.Key) },
		partFrom:   func() []byte { return addr.Bytes(m.From) },
	}
}

// readersOf are what reads each part of a route, from where the one ahead of it ends.
func readersOf(r *cursor.Reader, m *api.Mroute) [allParts]func() {
	return [allParts]func(){
		partRD:     func() { copy(m.RD[:], r.Take(len(m.RD))) },
		partAS:     func() { m.AS = r.Num(asSize) },
		partSource: func() { m.Source = readBits(r) },
		partGroup:  func() { m.Group = readBits(r) },
		partKey:    func() { m.Key = readKey(r) },
		partFrom:   func() { m.From, _ = addr.Of(r.Take(r.Left())) },
	}
}

// withBits is an address with its number of bits ahead.
func withBits(a api.Addr) []byte {
	b := addr.Bytes(a)
	return append([]byte{byte(8 * len(b))}, b...)
}

// readBits reads an address with its number of bits ahead.
func readBits(r *cursor.Reader) api.Addr {
	a, _ := addr.Of(r.Take(r.Num(1) / 8))
	return a
}

// readKey reads the bytes of a route: two, and as many as the second one says.
func readKey(r *cursor.Reader) string {
	kind, n := r.Num(1), r.Num(1)
	return string([]byte{byte(kind), byte(n)}) + string(r.Take(n))
}
