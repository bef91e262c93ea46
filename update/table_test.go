package update_test

import (
	"slices"
	"testing"

	"vinery/api"
	"vinery/update"
)

// asReachBytes and asUnreachBytes are bodies of one table's value.
func asReachBytes(value []byte) []byte   { return body(cat(someBytes, raw(optional, reach, value...))) }
func asUnreachBytes(value []byte) []byte { return body(raw(optional, unreach, value...)) }

// ends are how many bytes of its row each of a table's first routes have, none too.
func ends(t *testing.T, f family) []int {
	t.Helper()
	l := []int{0}
	for i := range f.table.M {
		b, _ := update.Bytes(asUnreach(api.Table{Size: f.table.Size, Safi: multi, M: f.table.M[:i+1]}))
		l = append(l, len(b)-10)
	}
	for i := range f.table.U {
		b, _ := update.Bytes(asUnreach(api.Table{Size: f.table.Size, Safi: private, U: f.table.U[:i+1]}))
		l = append(l, len(b)-10)
	}
	if l[len(l)-1] != len(f.row) {
		t.Fatalf("%v: the routes end at %v", f.row, l)
	}
	return l
}

// first is a table with its first routes.
func first(t api.Table, n int) api.Table {
	t.M, t.U = t.M[:min(n, len(t.M))], t.U[:min(n, len(t.U))]
	return t
}

func TestParseCutOffTables(t *testing.T) { // P10.2: in each place: just behind a route one may end
	for _, f := range families() {
		l := ends(t, f)
		un := withdrawn(f)
		for n := range un {
			if i := slices.Index(l, n-3); i >= 0 {
				wantParsed(t, asUnreachBytes(un[:n]), tells(first(f.table, i)), api.OutOk)
			} else {
				wantReset(t, asUnreachBytes(un[:n]), subTable)
			}
		}
		for _, next := range []api.Addr{four1, six1} {
			re := reached(f, next)
			for n := range re {
				switch i := slices.Index(l, n-(len(re)-len(f.row))); {
				case i > 0:
					wantParsed(t, asReachBytes(re[:n]), asReach(with(first(f.table, i), next)), api.OutOk)
				case i == 0:
					wantParsed(t, asReachBytes(re[:n]), update.Empty(), api.OutOk)
				default:
					wantReset(t, asReachBytes(re[:n]), subTable)
				}
			}
		}
	}
}

func TestParseTablesWithMore(t *testing.T) { // P10.2: a byte more, ahead of the routes, between them, behind them
	for _, f := range families() {
		for n := range 256 {
			one := []byte{byte(n)}
			wantReset(t, asUnreachBytes(cat(withdrawn(f), one)), subTable)
			wantReset(t, asReachBytes(cat(reached(f, four1), one)), subTable)
			wantReset(t, asReachBytes(cat(reached(f, six1), one)), subTable)
			wantReset(t, asReachBytes(cat(f.first, nextBytes(f, four1), one)), subTable)
			wantReset(t, asUnreachBytes(cat(f.first, one)), subTable)
		}
		for _, n := range []byte{0, 87, 255} { // others may be the first one of other routes
			wantReset(t, asUnreachBytes(cat(f.first, []byte{n}, f.row)), subTable)
			wantReset(t, asReachBytes(cat(f.first, nextBytes(f, four1), []byte{n}, f.row)), subTable)
		}
		wantReset(t, asUnreachBytes(reached(f, four1)), subTable) // a Next, where none stands
		wantReset(t, asReachBytes(withdrawn(f)), subTable)        // none, where one must
		wantReset(t, asUnreachBytes(cat(withdrawn(f), f.first)), subTable)
	}
}

func TestParseCountOfNext(t *testing.T) { // P10.2: one that is wrong, whatever stands behind it
	for _, f := range families() {
		guard := len(f.ahead)
		for n := range 256 {
			for _, next := range []api.Addr{four1, six1} {
				b := reached(f, next)
				b[3] = byte(n)
				if n != guard+next.Size {
					wantReset(t, asReachBytes(b), subTable)
				}
			}
			if n != guard+4 && n != guard+16 {
				for _, fill := range []byte{0, 10} {
					next := cat(f.ahead, slices.Repeat([]byte{fill}, n))[:n]
					wantReset(t, asReachBytes(cat(f.first, []byte{byte(n)}, next, []byte{0}, f.row)), subTable)
					wantReset(t, asReachBytes(cat(f.first, []byte{byte(n)}, next, []byte{0})), subTable)
				}
			}
		}
		wantReset(t, asReachBytes(cat(f.first, []byte{byte(guard)}, f.ahead, []byte{0}, f.row)), subTable) // none
	}
}

func TestParseWhatMustBeZero(t *testing.T) { // P10.2: the bytes ahead of Next, of SafiPrivate, and the one behind it
	for _, f := range families() {
		for _, next := range []api.Addr{four1, six1} {
			places := []int{len(f.first) + 1 + len(f.ahead) + next.Size}
			for i := range f.ahead {
				places = append(places, len(f.first)+1+i)
			}
			for _, place := range places {
				for n := 1; n < 256; n++ {
					b := reached(f, next)
					b[place] = byte(n)
					wantReset(t, asReachBytes(b), subTable)
				}
			}
		}
	}
	f := families()[0] // the first byte is of the family: so there is another one
	for n := 1; n < 256; n++ {
		b := reached(f, four1)
		b[0] = byte(n)
		wantParsed(t, asReachBytes(b), update.Empty(), api.OutDiscard)
	}
}

func TestParseWrongRoutes(t *testing.T) { // P10.2: alone, and among right ones
	wrongM := [][]byte{{0, 0}, {8, 0}, {1, 0}, {1, 12, 0, 0, 0, 1, 0, 0, 0, 1, 10, 0, 0}, {1, 11, 0, 0, 0, 1, 0, 0, 0, 1, 10, 0, 0}, {5, 18, 0, 0, 0, 1, 0, 0, 0, 1, 32, 224, 1, 1, 1, 32, 224, 0, 0, 1}, {4, 18, 1, 12, 0, 0, 0, 1, 0, 0, 0, 1, 10, 0, 0, 1, 10, 0, 0, 2}}
	wrongU := [][]byte{{87, 0, 1, 1, 0, 0, 0, 1, 0, 0, 0}, {0}, {88, 0, 1, 0, 0, 0, 0, 1, 0, 0, 0, 1}, {89, 0, 1, 1, 0, 0, 0, 1, 0, 0, 0, 1, 64}, {217, 0, 1, 1, 0, 0, 0, 1, 0, 0, 0, 1}}
	for i, f := range families() {
		wrong := [][][]byte{append(wrongM, active6Bytes), append(wrongM, select4Bytes, leaf4Bytes), append(wrongU, []byte{121, 0, 1, 1, 0, 0, 0, 1, 0, 0, 0, 1, 1, 1, 1, 1, 128}), wrongU}[i]
		for _, b := range wrong {
			for _, row := range [][]byte{b, cat(b, f.row), cat(f.row, b), cat(f.row, b, f.row)} {
				wantReset(t, asUnreachBytes(cat(f.first, row)), subTable)
				wantReset(t, asReachBytes(cat(f.first, nextBytes(f, four1), row)), subTable)
			}
		}
	}
}

func TestParseOneWrongTableOfTwo(t *testing.T) { // P10.2: whichever it is, and in whichever order
	for _, f := range families() {
		re, un := raw(optional, reach, reached(f, four1)...), raw(optional, unreach, withdrawn(f)...)
		for _, wrong := range [][]byte{nil, {0}, {0, 1}, {0, 1, multi, 9}, {0, 2, private, 0}} {
			wrongRe, wrongUn := raw(optional, reach, wrong...), raw(optional, unreach, wrong...)
			for _, l := range [][]byte{cat(someBytes, re, wrongUn), cat(wrongUn, someBytes, re), cat(someBytes, wrongRe, un), cat(un, wrongRe, someBytes), cat(someBytes, wrongRe, wrongUn)} {
				wantReset(t, body(l), subTable)
			}
		}
	}
}

func TestParseReachWithoutRoutes(t *testing.T) { // P10.2: it is let go, with OutOk, and the attributes with it
	for _, f := range families() {
		for _, next := range []api.Addr{four1, six1} {
			re := raw(optional, reach, cat(f.first, nextBytes(f, next))...)
			un := raw(optional, unreach, withdrawn(f)...)
			wantParsed(t, body(cat(someBytes, re)), update.Empty(), api.OutOk)
			wantParsed(t, body(cat(someBytes, re, un)), tells(f.table), api.OutOk)
			wantParsed(t, body(cat(un, re, someBytes)), tells(f.table), api.OutOk)
			wantParsed(t, body(cat(someBytes, re, raw(optional, unreach, f.first...))), tells(bare(f.table)), api.OutOk)
			wantParsed(t, body(cat(someBytes, re, raw(optional, unreach, 0, 9, 9))), update.Empty(), api.OutDiscard)
			wantParsed(t, body(cat(someBytes, least, re, un)), tells(f.table), api.OutDiscard)
			wantParsed(t, body(cat(re, un)), tells(f.table), api.OutWithdraw)
			wantParsed(t, body(re), update.Empty(), api.OutWithdraw)
		}
	}
}
