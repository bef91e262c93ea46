package update

import (
	"slices"

	"vinery/addr"
	"vinery/api"
	"vinery/family"
	"vinery/mroute"
	"vinery/uroute"
)

// rdSize is how many bytes a distinguisher has.
const rdSize = 8

// known tells whether a table is of one of the four families.
func known(t api.Table) bool { return family.Known(api.Family{Size: t.Size, Safi: t.Safi}) }

// hasRoutes tells whether a table has any.
func hasRoutes(t api.Table) bool { return len(t.M)+len(t.U) > 0 }

// rightTable tells whether a table is, where it is reached, or where it is withdrawn.
func rightTable(t api.Table, reached bool) bool {
	return known(t) && rightRoutes(t) && addr.Right(t.Next) && reached == (t.Next.Size > 0)
}

// rightRoutes tells whether the routes of a known family are right, and all of that family.
func rightRoutes(t api.Table) bool {
	if t.Safi == api.SafiMulti {
		odd := func(m api.Mroute) bool { return !isMroute(m, t.Size) }
		return len(t.U) == 0 && !slices.ContainsFunc(t.M, odd)
	}
	odd := func(u api.Uroute) bool { return !isUroute(u, t.Size) }
	return len(t.M) == 0 && !slices.ContainsFunc(t.U, odd)
}

// isMroute tells whether one is right, and of a size: one that is not right has no bytes to be read.
func isMroute(m api.Mroute, size int) bool {
	b, _ := mroute.Bytes(m)
	_, errno := mroute.Parse(b, size)
	return errno == api.OK
}

// isUroute tells whether one is right, and of a size.
func isUroute(u api.Uroute, size int) bool { return uroute.Right(u) && u.Prefix.Addr.Size == size }

// value is that of a table that is right.
func value(t api.Table, reached bool) []byte {
	first := []byte{0, family.Number(t.Size), byte(t.Safi)}
	var next []byte
	if reached {
		next = nextBytes(t)
	}
	m, _ := mroute.Row(t.M...)
	u, _ := uroute.Row(t.U...)
	return slices.Concat(first, next, m, u)
}

// nextBytes are those of a Next, and what stands around it.
func nextBytes(t api.Table) []byte {
	ahead := make([]byte, aheadOf(t.Safi))
	count := []byte{byte(len(ahead) + t.Next.Size)}
	return slices.Concat(count, ahead, addr.Bytes(t.Next), []byte{0})
}

// aheadOf is how many bytes stand ahead of a Next: those of a distinguisher that says nothing, where routes have one beside their prefix.
func aheadOf(safi int) int {
	if safi == api.SafiPrivate {
		return rdSize
	}
	return 0
}
