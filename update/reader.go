package update

import (
	"bytes"

	"vinery/addr"
	"vinery/api"
	"vinery/cursor"
	"vinery/family"
	"vinery/mroute"
	"vinery/uroute"
)

// reader reads a table out of its value, by the calls of the cursor that it embeds. Whether the value is just that table's, is told by writing it again.
type reader struct {
	*cursor.Reader
	table api.Table
}

// readTable reads a table: it, or none, if it is let go, and what comes of it.
func readTable(b []byte, reached bool) ([]api.Table, int) {
	r := reader{Reader: cursor.Open(b)}
	r.family()
	if r.Bad() {
		return nil, api.OutReset
	}
	if !known(r.table) {
		return nil, api.OutDiscard
	}
	if reached {
		r.next()
	}
	r.routes()
	if !rightTable(r.table, reached) || !bytes.Equal(value(r.table, reached), b) {
		return nil, api.OutReset
	}
	if reached && !hasRoutes(r.table) {
		return nil, api.OutOk
	}
	return []api.Table{r.table}, api.OutOk
}

// family reads which one it is.
func (r *reader) family() {
	r.table.Size = family.Size(r.Num(2))
	r.table.Safi = r.Num(1)
}

// next reads whence the routes are reached: none, where that is no address.
func (r *reader) next() {
	n := r.Sub(r.Num(1))
	n.Take(aheadOf(r.table.Safi))
	r.table.Next, _ = addr.Of(n.Take(n.Left()))
	r.Take(1)
}

// routes reads all that is left: no routes, where it is not just a row of them.
func (r *reader) routes() {
	b := r.Take(r.Left())
	if r.table.Safi == api.SafiMulti {
		r.table.M, _ = mroute.ReadRow(b, r.table.Size)
		return
	}
	r.table.U, _ = uroute.ReadRow(b, r.table.Size)
}
