package attr

import (
	"vinery/addr"
	"vinery/api"
	"vinery/community"
	"vinery/cursor"
	"vinery/pmsi"
	"vinery/rows"
)

// How many bytes addresses of IPv4 have, and numbers.
const (
	sizeFour   = 4
	numberSize = 4
)

// The kinds of segments in bytes.
const (
	isSet = 1
	isRow = 2
)

// said is what a value of a known kind would say: whether it is just one, is told by writing it again.
func said(kind int, b []byte) any {
	r := cursor.Open(b)
	switch kind {
	case api.AttrOrigin:
		return r.Num(1)
	case api.AttrPath:
		return list(r, api.MaxSegments, segment)
	case api.AttrMed, api.AttrPref:
		return r.Num(numberSize)
	case api.AttrOriginator:
		return four(r)
	case api.AttrClusters:
		return list(r, api.MaxClusters, four)
	case api.AttrExts:
		l, _ := community.Read(b)
		return l
	}
	t, _ := pmsi.Parse(b)
	return []api.Tunnel{t}
}

// list takes things as long as bytes are left, so many at most: bytes behind those are no right value, and need not be read.
func list[T any](r *cursor.Reader, most int, take func(*cursor.Reader) T) []T {
	var l []T
	for r.Left() > 0 && len(l) < most {
		l = append(l, take(r))
	}
	return l
}

// segment takes one.
func segment(r *cursor.Reader) api.Segment {
	s := api.Segment{Set: r.Num(1) == isSet}
	for range r.Num(1) {
		s.AS = append(s.AS, r.Num(numberSize))
	}
	return s
}

// four takes an address of IPv4: none, where too few bytes are left.
func four(r *cursor.Reader) api.Addr {
	a, _ := addr.Of(r.Take(sizeFour))
	return a
}

// with are attributes with what a known kind says: what said tells of that kind.
func with(a api.Attrs, kind int, what any) api.Attrs {
	switch kind {
	case api.AttrOrigin:
		a.Origin = what.(int)
	case api.AttrPath:
		a.Path = what.([]api.Segment)
	case api.AttrMed:
		a.Med = what.(int)
	case api.AttrPref:
		a.Pref = what.(int)
	case api.AttrOriginator:
		a.Originator = what.(api.Addr)
	case api.AttrClusters:
		a.Clusters = what.([]api.Addr)
	case api.AttrExts:
		a.Exts = what.([]api.Ext)
	case api.AttrTunnel:
		a.Tunnels = what.([]api.Tunnel)
	}
	return a
}

// value is that of a known kind, if it is there.
func value(a api.Attrs, kind int) ([]byte, bool) {
	switch kind {
	case api.AttrOrigin:
		return []byte{byte(a.Origin)}, true
	case api.AttrPath:
		b, errno := rows.Write(a.Path, segmentBytes)
		return b, errno == api.OK
	case api.AttrMed:
		return told(number(a.Med))
	case api.AttrPref:
		return told(number(a.Pref))
	case api.AttrOriginator:
		return told(addr.Bytes(a.Originator), api.OK)
	case api.AttrClusters:
		return told(rows.Write(a.Clusters, fourBytes))
	case api.AttrExts:
		return told(community.Bytes(a.Exts), api.OK)
	}
	return told(rows.Write(a.Tunnels, pmsi.Bytes))
}

// told tells whether a value is there, of a kind whose values have bytes.
func told(b []byte, errno api.Errno) ([]byte, bool) { return b, errno == api.OK && len(b) > 0 }

func number(n int) ([]byte, api.Errno) { return cursor.Put(nil, n, numberSize) }

func fourBytes(a api.Addr) ([]byte, api.Errno) { return addr.Bytes(a), api.OK }

func segmentBytes(s api.Segment) ([]byte, api.Errno) {
	head := []byte{isRow, byte(len(s.AS))}
	if s.Set {
		head[0] = isSet
	}
	b, errno := rows.Write(s.AS, number)
	return append(head, b...), errno
}
