package update_test

import (
	"slices"
	"testing"

	"vinery/api"
	"vinery/update"
)

// The Subs of what ends a session.
const (
	subList    = 1
	subUnknown = 2
	subFlags   = 4
	subTable   = 9
)

// tells is an update that tells nothing but these tables, as withdrawn.
func tells(l ...api.Table) api.Update { return telling(nothing(), nil, l) }

func TestParseExamples(t *testing.T) { // P10.2: each line of the chapter's
	wantParsed(t, []byte{0, 0, 0, 0}, update.Empty(), api.OutOk)
	wantReset(t, []byte{0, 0, 0, 3, 128, 15, 0}, 9)
	wantParsed(t, []byte{0, 0, 0, 6, 128, 15, 3, 0, 1, 5}, tells(api.Table{Size: 4, Safi: multi}), api.OutOk)
	wantReset(t, []byte{0, 0, 0, 9}, 1)
}

func TestParseLess(t *testing.T) { // P10.2: less than it says, in each place
	for _, b := range [][]byte{{0, 0, 0, 0}, {0, 3, 7, 7, 7, 0, 0}, fullBytes(), cat([]byte{1, 0}, make([]byte, 256), fullBytes()[2:])} {
		for n := range len(b) {
			wantReset(t, b[:n], subList)
		}
	}
	for _, b := range [][]byte{nil, {}, {0}, {0, 0}, {0, 0, 0}, {0, 1, 0, 0}, {0, 2, 0, 0}, {255, 255, 0, 0}, {1, 0, 0, 0}, {0, 0, 0, 1}, {0, 0, 255, 255}, {0, 0, 1, 0, 128, 4, 4, 0, 0, 0, 9}, {0, 0, 0, 8, 128, 4, 4, 0, 0, 0, 9}} {
		wantReset(t, b, subList)
	}
}

func TestParsePassed(t *testing.T) { // P10.2: bytes behind the first two, and at the end
	want, b := full(), fullBytes()
	for _, n := range []int{0, 1, 2, 3, 4, 255, 256, 257, 65535} {
		for _, fill := range []byte{0, 1, 255} {
			skip := cat([]byte{byte(n >> 8), byte(n)}, slices.Repeat([]byte{fill}, n))
			wantParsed(t, cat(skip, b[2:]), want, api.OutOk)
			wantParsed(t, cat(skip, []byte{0, 0}), update.Empty(), api.OutOk)
			wantParsed(t, cat(b, skip[2:]), want, api.OutOk)
			wantParsed(t, cat(skip, b[2:], skip[2:]), want, api.OutOk)
			wantParsed(t, cat([]byte{0, 0, 0, 0}, skip[2:]), update.Empty(), api.OutOk)
		}
	}
	wantParsed(t, cat(b, b), want, api.OutOk)
}

func TestParseLongBodies(t *testing.T) { // P10.2: no count is a limit here: MaxMessage is for what is written
	l := filling(60000)
	var row []byte
	for _, u := range l {
		row = cat(row, []byte{byte(88 + u.Prefix.Bits)}, all4Bytes[1:], make([]byte, u.Prefix.Bits/8))
	}
	wantParsed(t, body(raw(optional, unreach, cat([]byte{0, 1, private}, row)...)), tells(api.Table{Size: 4, Safi: private, U: l}), api.OutOk)
}

func TestParseSplitErrors(t *testing.T) { // P10.2: of each of attr.Split's errors: {3 1}, whatever else there is
	attrs := cat(least, raw(optional, 4, 0, 0, 0, 9), raw(optional, unreach, 0, 1, multi))
	for n := range attrs {
		if n == 0 || n == 4 || n == 7 || n == 14 {
			wantParsed(t, body(attrs[:n]), update.Empty(), api.OutOk)
		} else {
			wantReset(t, body(attrs[:n]), subList)
		}
	}
	for _, cut := range [][]byte{{128}, {128, 4}, {128, 4, 4}, {128, 4, 4, 0, 0, 0}, {144, 4, 0}, {144, 4, 1, 0}} {
		for _, ahead := range [][]byte{nil, least, attrs, raw(transitive, 77), cat(raw(optional, reach), raw(optional, reach)), raw(optional, unreach)} {
			wantReset(t, body(cat(ahead, cut)), subList)
		}
	}
	one := raw(192, 77, 5)
	wantParsed(t, body(slices.Repeat(one, mostAttrs)), update.Empty(), api.OutOk)
	wantReset(t, body(slices.Repeat(one, mostAttrs+1)), subList)
	wantReset(t, body(cat(slices.Repeat(one, mostAttrs), []byte{0})), subList)
	wantReset(t, body(cat(raw(transitive, 77), slices.Repeat(one, mostAttrs))), subList)
}

// reasons are those of attr.Read's OutReset, by the Sub that they have.
func reasons() map[int][][]byte {
	f := families()
	re, un := raw(optional, reach, reached(f[0], four1)...), raw(optional, unreach, withdrawn(f[1])...)
	return map[int][][]byte{
		subUnknown: {raw(0, 77), raw(64, 77, 1), raw(96, 3), raw(32, 0, 9), raw(64, 255), raw(1, 13), cat(raw(128, 78), raw(64, 78)), cat(raw(64, 79), raw(64, 79))},
		subList:    {cat(re, re), cat(un, un), cat(re, re, re), cat(re, un, un), cat(raw(optional, reach), re), cat(raw(optional, unreach), raw(optional, unreach)), cat(re, un, re, un), cat(raw(64, reach), raw(64, reach)), cat(un, raw(0, unreach)), cat(raw(192, reach, 0, 9, 9), re)},
		subFlags:   {cat(raw(192, reach, reached(f[0], four1)...), un), cat(re, raw(64, unreach, withdrawn(f[1])...)), raw(0, reach), raw(0, unreach), raw(160, reach, 0, 1, 1), raw(129, unreach), raw(64, unreach, 0, 1, 5), cat(raw(0, reach), raw(0, unreach))},
	}
}

func TestParseSubs(t *testing.T) { // P10.2: of attr.Read's OutReset, with other attributes ahead, behind, without
	others := [][]byte{nil, least, someBytes, raw(192, 99, 1, 2), raw(64, 4, 0, 0, 0, 9), raw(0, 1, 0), raw(0, 16), raw(64, 22), raw(0, 9), raw(0, 10), raw(128, 200), cat(raw(64, 5, 0, 0, 0, 1), raw(0, 5)), raw(128, 2)}
	for sub, l := range reasons() {
		for _, attrs := range l {
			for _, more := range others {
				wantReset(t, body(cat(attrs, more)), sub)
				wantReset(t, body(cat(more, attrs)), sub)
			}
		}
	}
}

func TestParseMoreThanOneReason(t *testing.T) { // P10.2: what had to be known ahead of two of a kind, these ahead of flags; all ahead of tables that can't be read
	all := reasons()
	wrong := raw(optional, unreach)
	for _, unknown := range all[subUnknown] {
		for _, other := range append(cat(all[subList], all[subFlags]), wrong) {
			wantReset(t, body(cat(unknown, other)), subUnknown)
			wantReset(t, body(cat(other, unknown)), subUnknown)
		}
	}
	for _, twice := range all[subList] {
		for _, other := range append(slices.Clone(all[subFlags]), wrong) {
			wantReset(t, body(cat(twice, other)), subList)
			wantReset(t, body(cat(other, twice)), subList)
		}
	}
	wantReset(t, body(cat(raw(0, reach), wrong)), subFlags)
	wantReset(t, body(cat(wrong, raw(0, reach, 9))), subFlags)
}

func TestParseSubOfEachKind(t *testing.T) { // P10.2: just the kinds that are not known end the session so; those of flags that may not be withdraw
	known := []byte{1, 2, 4, 5, 9, 10, 16, 22}
	twice := cat(raw(optional, reach), raw(optional, reach))
	for kind := range 256 {
		for flags := 0; flags < 256; flags += 32 {
			one := raw(byte(flags), byte(kind), 1)
			sub := subList
			if !slices.Contains(append(known, reach, unreach), byte(kind)) && flags < optional {
				sub = subUnknown
				wantReset(t, body(one), subUnknown)
			}
			wantReset(t, body(cat(twice, one)), sub)
			wantReset(t, body(cat(one, twice)), sub)
		}
	}
}

// wantBothReset wants a value to end the session, as a Reach (behind attributes that it needs) and as an Unreach.
func wantBothReset(t *testing.T, value []byte) {
	t.Helper()
	wantReset(t, body(cat(least, raw(optional, reach, value...))), subTable)
	wantReset(t, body(raw(optional, unreach, value...)), subTable)
}

func TestParseFamilies(t *testing.T) { // P10.2: each of the four; another one is let go, whatever stands behind it
	for first := range 256 {
		for second := range 256 {
			if first > 3 && second > 3 && first != 255 {
				continue
			}
			for _, safi := range []byte{0, 1, 2, 4, multi, 6, 64, 127, private, 129, 255} {
				isOne := first == 0 && (second == 1 || second == 2) && (safi == multi || safi == private)
				value := []byte{byte(first), byte(second), safi}
				if isOne {
					wantParsed(t, body(raw(optional, unreach, value...)), tells(api.Table{Size: []int{4, 16}[second-1], Safi: int(safi)}), api.OutOk)
					continue
				}
				wantParsed(t, body(cat(someBytes, raw(optional, reach, value...))), update.Empty(), api.OutDiscard)
				wantParsed(t, body(raw(optional, unreach, value...)), update.Empty(), api.OutDiscard)
				wantParsed(t, body(raw(optional, unreach, append(value, 9, 9, 9)...)), update.Empty(), api.OutDiscard)
			}
		}
	}
	for n := range 3 {
		for _, b := range []byte{0, 1, 2, 3, 255} {
			wantBothReset(t, slices.Repeat([]byte{b}, n))
			wantBothReset(t, []byte{0, 1, multi}[:n])
		}
	}
}

func TestParseAnotherFamily(t *testing.T) { // P10.2: beside one that is known: that one stays
	for _, f := range families() {
		for _, other := range [][]byte{{0, 1, 1}, {0, 3, multi}, {1, 1, private, 4}, {0, 0, 0}, cat([]byte{0, 1, 2}, reached(f, four1)[3:])} {
			re, un := with(f.table, four1), f.table
			reBytes, unBytes := raw(optional, reach, reached(f, four1)...), raw(optional, unreach, withdrawn(f)...)
			otherRe, otherUn := raw(optional, reach, other...), raw(optional, unreach, other...)
			wantParsed(t, body(cat(someBytes, reBytes, otherUn)), telling(some(), []api.Table{re}, nil), api.OutDiscard)
			wantParsed(t, body(cat(otherUn, reBytes, someBytes)), telling(some(), []api.Table{re}, nil), api.OutDiscard)
			wantParsed(t, body(cat(someBytes, otherRe, unBytes)), tells(un), api.OutDiscard)
			wantParsed(t, body(cat(unBytes, someBytes, otherRe)), tells(un), api.OutDiscard)
			wantParsed(t, body(cat(someBytes, otherRe, otherUn)), update.Empty(), api.OutDiscard)
			wantReset(t, body(cat(someBytes, otherRe, raw(optional, unreach, 0, 1))), subTable)
			wantReset(t, body(cat(otherUn, someBytes, raw(optional, reach, 0, 1, multi))), subTable)
		}
	}
}
