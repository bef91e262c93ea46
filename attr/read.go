package attr

import (
	"bytes"

	"vinery/api"
)

// reading is what came of attributes so far.
type reading struct {
	attrs api.Attrs   // what they say: they are right
	rest  []api.Raw   // those that are not read here
	came  map[int]int // how many of each kind
}

// Read reads attributes.
func Read(l []api.Raw) (api.Attrs, []api.Raw, int) {
	r := reading{attrs: None(), came: map[int]int{}}
	out := api.OutOk
	for _, w := range l {
		out = max(out, r.next(w))
		r.came[w.Kind]++
	}
	if r.came[api.AttrReach] > 0 && (r.came[api.AttrOrigin] == 0 || r.came[api.AttrPath] == 0) {
		out = max(out, api.OutWithdraw)
	}
	return r.attrs, r.rest, out
}

// next reads one, and tells what comes of it.
func (r *reading) next(w api.Raw) int {
	again := r.came[w.Kind] > 0
	routes := w.Kind == api.AttrReach || w.Kind == api.AttrUnreach
	flags, isKnown := flagsOf(w.Kind)
	switch {
	case again && isKnown:
		return api.OutDiscard
	case again && routes:
		return api.OutReset
	case isKnown:
		return r.take(w, flags)
	case routes:
		return r.leave(w, w.Flags == api.FlagOptional)
	case w.Flags&api.FlagOptional == 0:
		return api.OutReset
	case w.Flags&api.FlagTransitive != 0:
		return r.leave(w, true)
	}
	return api.OutOk
}

// flagsOf are those of a kind, if it is known.
func flagsOf(kind int) (int, bool) {
	for _, k := range known {
		if k.kind == kind {
			return k.flags, true
		}
	}
	return 0, false
}

// leave keeps one that is not read here.
func (r *reading) leave(w api.Raw, fits bool) int {
	w.Value = bytes.Clone(w.Value)
	r.rest = append(r.rest, w)
	if !fits {
		return api.OutReset
	}
	return api.OutOk
}

// take takes what one of a known kind says, if it is just one: what was read is written again, and held against it.
func (r *reading) take(w api.Raw, flags int) int {
	a := with(r.attrs, w.Kind, said(w.Kind, w.Value))
	again, there := value(a, w.Kind)
	if !fit(w.Flags, flags) || !Right(a) || !there || !bytes.Equal(again, w.Value) {
		return api.OutWithdraw
	}
	r.attrs = a
	return api.OutOk
}

// fit tells whether flags are those of a kind. Just what speakers pass on that do not know it may have been passed on so.
func fit(flags, want int) bool {
	const passed = api.FlagOptional | api.FlagTransitive
	return flags == want || want == passed && flags == want|api.FlagPartial
}
