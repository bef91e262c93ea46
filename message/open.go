package message

import (
	"slices"

	"vinery/addr"
	"vinery/api"
	"vinery/cursor"
	"vinery/family"
)

// version is the one that all opens are of.
const version = 4

// An AS in two bytes: the greatest one, and what stands there for those that need four.
const (
	mostShort = 1<<16 - 1
	standsFor = 23456
)

// paramCapabilities is the one kind of an open's parameters.
const paramCapabilities = 2

// The kinds of capabilities that are read here.
const (
	capFamily  = 1
	capRefresh = 2
	capAS      = 65
)

// asSize is how many bytes an AS has in a capability.
const asSize = 4

// Why a session ends: the Code of what an open was, and its Subs.
const (
	codeOpen     = 2
	subWhole     = 0 // it is not just as long as it says
	subVersion   = 1
	subAS        = 2
	subId        = 3
	subParameter = 4 // a parameter of another kind
	subHold      = 6
)

// openBytes are the body of an open that is right.
func openBytes(o api.Open) []byte {
	as := o.AS
	if as > mostShort {
		as = standsFor
	}
	b, _ := cursor.Put([]byte{version}, as, 2)
	b, _ = cursor.Put(b, o.Hold, 2)
	params := counted(paramCapabilities, capabilities(o))
	return slices.Concat(b, addr.Bytes(o.Id), []byte{byte(len(params))}, params)
}

// capabilities are those that an open tells.
func capabilities(o api.Open) []byte {
	var b []byte
	for _, f := range o.Families {
		b = append(b, counted(capFamily, familyBytes(f))...)
	}
	if o.Refresh {
		b = append(b, counted(capRefresh, nil)...)
	}
	as, _ := cursor.Put(nil, o.AS, asSize)
	return append(b, counted(capAS, as)...)
}

// counted are bytes, with a number and their count ahead.
func counted(number byte, b []byte) []byte {
	return append([]byte{number, byte(len(b))}, b...)
}

// readOpen reads an open, and tells the first thing in it that is wrong.
func readOpen(b []byte) (api.Open, int, api.Note) {
	r := cursor.Open(b)
	is := r.Num(1)
	o := api.Open{AS: r.Num(2), Hold: r.Num(2)}
	o.Id, _ = addr.Of(r.Take(sizeFour))
	params := r.Sub(r.Num(1))
	switch {
	case r.Bad() || r.Left() > 0:
		return endOpen(subWhole)
	case is != version:
		return endOpen(subVersion, 0, version)
	}
	if sub, fits := readParameters(params, &o); !fits {
		return endOpen(sub)
	}
	switch {
	case o.AS == 0:
		return endOpen(subAS)
	case o.Hold > 0 && o.Hold < leastHold:
		return endOpen(subHold)
	case o.Id == nobody():
		return endOpen(subId)
	}
	return o, api.OutOk, api.Note{}
}

// endOpen ends the session.
func endOpen(sub int, data ...byte) (api.Open, int, api.Note) {
	return api.Open{}, api.OutReset, api.Note{Code: codeOpen, Sub: sub, Data: data}
}

// readParameters reads an open's parameters from the front: false, with its Sub, behind the first thing that is wrong.
func readParameters(r *cursor.Reader, o *api.Open) (int, bool) {
	for r.Left() > 0 {
		if r.Num(1) != paramCapabilities {
			return subParameter, false
		}
		if !readCapabilities(r.Sub(r.Num(1)), o) {
			return subWhole, false
		}
	}
	return 0, true
}

// readCapabilities reads those of a parameter: false, if they go beyond its end, or one has not the bytes that it must have.
func readCapabilities(r *cursor.Reader, o *api.Open) bool {
	for r.Left() > 0 {
		number := r.Num(1)
		if !readCapability(number, r.Sub(r.Num(1)), o) {
			return false
		}
	}
	return !r.Bad()
}

// readCapability reads one: those that are not known are passed.
func readCapability(number int, r *cursor.Reader, o *api.Open) bool {
	switch number {
	case capFamily:
		f, whole := readFamily(r)
		if whole && family.Known(f) && !slices.Contains(o.Families, f) {
			o.Families = append(o.Families, f)
		}
		return whole
	case capRefresh:
		o.Refresh = true
	case capAS:
		o.AS = r.Num(asSize)
		return !r.Bad() && r.Left() == 0
	}
	return true
}
