package update_test

import (
	"testing"

	"vinery/api"
	"vinery/update"
)

// withdraws are attributes from which a Reach's routes are taken for withdrawn, with what a Reach needs and without.
func withdraws() [][]byte {
	return [][]byte{
		cat(least, raw(optional, 4, 1)),
		cat(raw(optional, 4, 1), least),
		cat(least, raw(transitive, 4, 0, 0, 0, 1)),
		cat(least, raw(optional|transitive|long, 16)),
		cat(least, raw(optional|transitive, 22, 9)),
		cat(raw(transitive, 1, 3), raw(transitive, 2)),
		cat(raw(transitive, 1, 0), raw(transitive, 2, 2, 0)),
		cat(raw(optional, 1, 0), raw(transitive, 2)),
		nil, // neither AttrOrigin nor AttrPath
		raw(transitive, 1, 0),
		raw(transitive, 2),
		cat(raw(optional, 4, 0, 0, 0, 9), raw(transitive, 5, 0, 0, 0, 9)),
	}
}

func TestWithdrawBoth(t *testing.T) { // P10.2: the Reach's routes stand ahead of the Unreach that was there, in whichever order they came
	for _, f := range families() {
		for _, g := range families() {
			re, un := raw(optional, reach, reached(f, six1)...), raw(optional, unreach, withdrawn(g)...)
			for _, attrs := range withdraws() {
				wantParsed(t, body(cat(attrs, re, un)), tells(f.table, g.table), api.OutWithdraw)
				wantParsed(t, body(cat(un, attrs, re)), tells(f.table, g.table), api.OutWithdraw)
				wantParsed(t, body(cat(attrs, re, raw(optional, unreach, g.first...))), tells(f.table, bare(g.table)), api.OutWithdraw)
			}
		}
	}
}

func TestWithdrawOne(t *testing.T) { // P10.2: a Reach alone, an Unreach alone, none
	for _, attrs := range withdraws() {
		for _, f := range families() {
			wantParsed(t, body(cat(attrs, raw(optional, reach, reached(f, four1)...))), tells(f.table), api.OutWithdraw)
		}
	}
	for _, attrs := range withdraws()[:8] {
		for _, f := range families() {
			wantParsed(t, body(cat(attrs, raw(optional, unreach, withdrawn(f)...))), tells(f.table), api.OutWithdraw)
		}
		wantParsed(t, body(attrs), update.Empty(), api.OutWithdraw)
	}
	for _, attrs := range withdraws()[8:] { // what a Reach needs, an Unreach does not
		for _, f := range families() {
			wantParsed(t, body(cat(attrs, raw(optional, unreach, withdrawn(f)...))), tells(f.table), api.OutOk)
		}
		wantParsed(t, body(attrs), update.Empty(), api.OutOk)
	}
}

func TestWithdrawWhatCanNotBeRead(t *testing.T) { // P10.2: the session ends; what is of another family is let go
	for _, f := range families() {
		re, un := raw(optional, reach, reached(f, four1)...), raw(optional, unreach, withdrawn(f)...)
		for _, attrs := range withdraws() {
			for _, wrong := range [][]byte{nil, {0, 1}, {0, 1, multi, 1}, append(withdrawn(f), 7)} {
				wantReset(t, body(cat(attrs, re, raw(optional, unreach, wrong...))), subTable)
				wantReset(t, body(cat(raw(optional, reach, wrong...), un, attrs)), subTable)
				wantReset(t, body(cat(attrs, raw(optional, reach, wrong...))), subTable)
			}
			otherRe, otherUn := raw(optional, reach, 0, 1, 1, 9), raw(optional, unreach, 0, 3, private)
			wantParsed(t, body(cat(attrs, re, otherUn)), tells(f.table), api.OutWithdraw)
			wantParsed(t, body(cat(attrs, otherRe, un)), tells(f.table), api.OutWithdraw)
			wantParsed(t, body(cat(attrs, otherRe, otherUn)), update.Empty(), api.OutWithdraw)
			wantParsed(t, body(cat(attrs, otherRe)), update.Empty(), api.OutWithdraw)
			wantReset(t, body(cat(attrs, otherRe, raw(optional, unreach))), subTable)
			wantReset(t, body(cat(attrs, raw(optional, reach), otherUn)), subTable)
		}
	}
}

func TestDiscard(t *testing.T) { // P10.2: a second one of a known kind: what was read stays
	for _, f := range families() {
		re, un := []api.Table{with(f.table, four1)}, []api.Table{f.table}
		reBytes, unBytes := raw(optional, reach, reached(f, four1)...), raw(optional, unreach, withdrawn(f)...)
		for _, second := range [][]byte{least, raw(optional, 4, 1), raw(0, 9), someBytes} {
			attrs := cat(someBytes, second)
			wantParsed(t, body(cat(attrs, reBytes, unBytes)), telling(some(), re, un), api.OutDiscard)
			wantParsed(t, body(cat(unBytes, attrs, reBytes)), telling(some(), re, un), api.OutDiscard)
			wantParsed(t, body(cat(attrs, reBytes)), telling(some(), re, nil), api.OutDiscard)
			wantParsed(t, body(cat(attrs, unBytes)), tells(un...), api.OutDiscard)
			wantParsed(t, body(attrs), update.Empty(), api.OutDiscard)
			wantParsed(t, body(cat(attrs, reBytes, raw(optional, unreach, 0, 9, 9))), telling(some(), re, nil), api.OutDiscard)
			wantReset(t, body(cat(attrs, reBytes, raw(optional, unreach, 0, 9))), subTable)
			wantReset(t, body(cat(attrs, raw(optional, reach, 0, 2, private), unBytes)), subTable)
		}
		wantParsed(t, body(cat(raw(optional, 4, 1), raw(optional, 4, 1), least, reBytes, unBytes)), tells(f.table, f.table), api.OutWithdraw)
	}
}

func TestNoReachNoAttrs(t *testing.T) { // P10.2: without a Reach there are none, whatever came
	for _, f := range families() {
		un := raw(optional, unreach, withdrawn(f)...)
		for _, attrs := range [][]byte{nil, least, someBytes, raw(optional, 4, 0, 0, 0, 9), raw(192, 77, 1), raw(128, 78)} {
			wantParsed(t, body(cat(attrs, un)), tells(f.table), api.OutOk)
			wantParsed(t, body(cat(un, attrs)), tells(f.table), api.OutOk)
			wantParsed(t, body(attrs), update.Empty(), api.OutOk)
		}
	}
}

func TestUnknownAttributesArePassed(t *testing.T) { // P10.2: beside those of a Reach, that stay
	f := families()[0]
	re := raw(optional, reach, reached(f, four1)...)
	for _, more := range [][]byte{raw(192, 77, 1, 2, 3), raw(128, 77), raw(224, 0), cat(raw(192, 77), raw(192, 77)), raw(192|long, 78, 0)} {
		wantParsed(t, body(cat(someBytes, more, re)), asReach(with(f.table, four1)), api.OutOk)
		wantParsed(t, body(cat(more, re, someBytes)), asReach(with(f.table, four1)), api.OutOk)
	}
}

func TestParseFlagsOfReach(t *testing.T) { // P10.2: FlagOptional, and FlagLong where the count has two bytes; none besides
	f := families()[0]
	value := reached(f, four1)
	for flags := range 256 {
		one := raw(byte(flags), reach, value...)
		if flags&^long == optional {
			wantParsed(t, body(cat(someBytes, one)), asReach(with(f.table, four1)), api.OutOk)
		} else {
			wantReset(t, body(cat(someBytes, one)), subFlags)
		}
	}
}

func TestAttrsOfAReach(t *testing.T) { // P10.2: the update has what was read of them
	f := families()[3]
	re := raw(optional, reach, reached(f, four1)...)
	a := nothing()
	a.Med, a.Exts = 7, []api.Ext{{1, 2, 3, 4, 5, 6, 7, 8}}
	attrs := cat(raw(optional|transitive|partial, 16, 1, 2, 3, 4, 5, 6, 7, 8), least, raw(optional, 4, 0, 0, 0, 7))
	wantParsed(t, body(cat(attrs, re)), telling(a, []api.Table{with(f.table, four1)}, nil), api.OutOk)
	wantParsed(t, body(cat(re, attrs)), telling(a, []api.Table{with(f.table, four1)}, nil), api.OutOk)
}
