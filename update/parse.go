package update

import (
	"slices"

	"vinery/api"
	"vinery/attr"
	"vinery/cursor"
)

// Why a session ends: the Code of what an update was, and its Subs.
const (
	codeUpdate = 3
	subList    = 1 // what its attributes are can't be told
	subUnknown = 2 // an attribute that had to be known
	subFlags   = 4 // flags that may not be
	subTable   = 9 // routes that can't be read
)

// Parse reads one.
func Parse(b []byte) (api.Update, int, api.Note) {
	l, whole := split(b)
	if !whole {
		return reset(subList)
	}
	attrs, rest, out := attr.Read(l)
	if out == api.OutReset {
		return reset(subOf(l))
	}
	u, comes := tables(rest)
	out = max(out, comes)
	switch {
	case out == api.OutReset:
		return reset(subTable)
	case out == api.OutWithdraw:
		u = withdrawn(u)
	case len(u.Reach) > 0:
		u.Attrs = attrs
	}
	return u, out, api.Note{}
}

// reset ends the session.
func reset(sub int) (api.Update, int, api.Note) {
	return Empty(), api.OutReset, api.Note{Code: codeUpdate, Sub: sub}
}

// split cuts the attributes out of a body: false, if they are not all there.
func split(b []byte) ([]api.Raw, bool) {
	r := cursor.Open(b)
	r.Take(r.Num(countSize))
	own := r.Take(r.Num(countSize))
	l, errno := attr.Split(own)
	return l, errno == api.OK && !r.Bad()
}

// subOf is why attributes end the session.
func subOf(l []api.Raw) int {
	switch {
	case slices.ContainsFunc(l, hadToBeKnown):
		return subUnknown
	case twice(l, api.AttrReach), twice(l, api.AttrUnreach):
		return subList
	}
	return subFlags
}

// hadToBeKnown tells whether one is of an unknown kind that may not be. (Of what tells no routes just such a one ends a session on its own.)
func hadToBeKnown(w api.Raw) bool {
	_, _, out := attr.Read([]api.Raw{w})
	return w.Kind != api.AttrReach && w.Kind != api.AttrUnreach && out == api.OutReset
}

// twice tells whether there are at least two of a kind.
func twice(l []api.Raw, kind int) bool {
	isOne := func(w api.Raw) bool { return w.Kind == kind }
	first := slices.IndexFunc(l, isOne)
	return first >= 0 && slices.ContainsFunc(l[first+1:], isOne)
}

// tables reads what tells routes, and what comes of that.
func tables(l []api.Raw) (api.Update, int) {
	u, out := Empty(), api.OutOk
	for _, w := range l {
		comes := api.OutOk
		switch w.Kind {
		case api.AttrReach:
			u.Reach, comes = readTable(w.Value, true)
		case api.AttrUnreach:
			u.Unreach, comes = readTable(w.Value, false)
		}
		out = max(out, comes)
	}
	return u, out
}

// withdrawn takes all routes of an update for withdrawn.
func withdrawn(u api.Update) api.Update {
	gone := Empty()
	for _, t := range u.Reach {
		t.Next = api.Addr{}
		gone.Unreach = append(gone.Unreach, t)
	}
	gone.Unreach = append(gone.Unreach, u.Unreach...)
	return gone
}
