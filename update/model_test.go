package update_test

import (
	"bytes"

	"vinery/addr"
	"vinery/api"
	"vinery/attr"
	"vinery/mroute"
	"vinery/uroute"
)

// number is the one that two bytes are.
func number(b []byte) int { return int(b[0])*256 + int(b[1]) }

// modelParse reads a body place by place, line by line as the chapter has them: with the Sub of what ends the session.
func modelParse(b []byte) (u api.Update, out, sub int) {
	empty := api.Update{Attrs: nothing()}
	if len(b) < 2 || len(b) < 4+number(b) {
		return empty, 3, 1
	}
	b = b[2+number(b):]
	if len(b) < 2+number(b) {
		return empty, 3, 1
	}
	l, e := attr.Split(b[2 : 2+number(b)])
	if e != api.OK {
		return empty, 3, 1
	}
	a, _, out := attr.Read(l)
	if out == 3 {
		return empty, 3, modelSub(l)
	}
	var re, un []api.Table
	for _, w := range l {
		if w.Kind != 14 && w.Kind != 15 {
			continue
		}
		t, comes := modelTable(w.Value, w.Kind == 14)
		switch {
		case comes == 3:
			return empty, 3, 9
		case comes == 1:
			out = max(out, 1)
		case w.Kind == 15:
			un = append(un, t)
		case len(t.M) > 0 || len(t.U) > 0:
			re = append(re, t)
		}
	}
	if out == 2 {
		for i := range re {
			re[i].Next = none
		}
		return api.Update{Attrs: nothing(), Unreach: append(re, un...)}, 2, 0
	}
	if len(re) == 0 {
		a = nothing()
	}
	return api.Update{Attrs: a, Reach: re, Unreach: un}, out, 0
}

// modelSub is why attributes end the session.
func modelSub(l []api.Raw) int {
	sub, came := 4, map[int]int{}
	for _, w := range l {
		switch w.Kind {
		case 1, 2, 4, 5, 9, 10, 16, 22:
		case 14, 15:
			came[w.Kind]++
			if came[w.Kind] == 2 && sub == 4 {
				sub = 1
			}
		default:
			if w.Flags < 128 {
				sub = 2
			}
		}
	}
	return sub
}

// modelTable reads a table's value, cut by hand: what is behind its routes' beginning is a row of chapter 7 or 8.
func modelTable(b []byte, reached bool) (t api.Table, out int) {
	if len(b) < 3 {
		return t, 3
	}
	four := b[0] == 0 && b[1] == 1
	if !four && (b[0] != 0 || b[1] != 2) || b[2] != 5 && b[2] != 128 {
		return t, 1
	}
	t.Size, t.Safi = 16, int(b[2])
	if four {
		t.Size = 4
	}
	rest := b[3:]
	if reached {
		if rest, t.Next = modelNext(rest, t.Safi); t.Next == none {
			return t, 3
		}
	}
	var e api.Errno
	if t.Safi == 5 {
		t.M, e = mroute.ReadRow(rest, t.Size)
	} else {
		t.U, e = uroute.ReadRow(rest, t.Size)
	}
	if e != api.OK {
		return t, 3
	}
	return t, 0
}

// modelNext cuts a Next off: none, if there is none that may stand there.
func modelNext(b []byte, safi int) ([]byte, api.Addr) {
	ahead := 0
	if safi == 128 {
		ahead = 8
	}
	for _, size := range []int{4, 16} {
		n := ahead + size
		if len(b) >= n+2 && int(b[0]) == n && bytes.Equal(b[1:1+ahead], make([]byte, ahead)) && b[1+n] == 0 {
			a, _ := addr.Of(b[1+ahead : 1+n])
			return b[n+2:], a
		}
	}
	return nil, none
}

// modelRight tells of an update whether it is.
func modelRight(u api.Update) bool {
	if len(u.Reach) > 1 || len(u.Unreach) > 1 || !attr.Right(u.Attrs) {
		return false
	}
	if len(u.Reach) == 0 && !equal(u.Attrs, nothing()) {
		return false
	}
	for _, t := range u.Reach {
		if !modelRightTable(t) || t.Next.Size == 0 || len(t.M)+len(t.U) == 0 {
			return false
		}
	}
	for _, t := range u.Unreach {
		if !modelRightTable(t) || t.Next != none {
			return false
		}
	}
	return true
}

func modelRightTable(t api.Table) bool {
	ok := (t.Size == 4 || t.Size == 16) && addr.Right(t.Next)
	for _, m := range t.M {
		flow := m
		if m.Kind == api.RouteLeaf { // it is of the size that the route of its key is of
			flow, _, _ = mroute.Take([]byte(m.Key), t.Size)
		}
		size := max(flow.Source.Size, flow.Group.Size)
		ok = ok && t.Safi == 5 && mroute.Right(m) && (size == 0 || size == t.Size) && flow.Kind != 0
	}
	for _, u := range t.U {
		ok = ok && t.Safi == 128 && uroute.Right(u) && u.Prefix.Addr.Size == t.Size
	}
	return ok && (t.Safi == 5 || t.Safi == 128)
}

// modelBytes are the body of an update that is right: an error, if it is too long.
func modelBytes(u api.Update) ([]byte, api.Errno) {
	var attrs []byte
	for _, t := range u.Reach {
		l, _ := attr.Write(u.Attrs)
		attrs, _ = attr.Join(l...)
		ahead := make([]byte, map[int]int{5: 0, 128: 8}[t.Safi])
		next := cat([]byte{byte(len(ahead) + t.Next.Size)}, ahead, t.Next.B[:t.Next.Size], []byte{0})
		attrs = cat(attrs, raw(128, 14, modelValue(t, next)...))
	}
	for _, t := range u.Unreach {
		attrs = cat(attrs, raw(128, 15, modelValue(t, nil)...))
	}
	if len(attrs)+4 > 4077 {
		return nil, api.ErrLong
	}
	return body(attrs), api.OK
}

func modelValue(t api.Table, next []byte) []byte {
	b := cat([]byte{0, map[int]byte{4: 1, 16: 2}[t.Size], byte(t.Safi)}, next)
	for _, m := range t.M {
		one, _ := mroute.Bytes(m)
		b = cat(b, one)
	}
	for _, u := range t.U {
		one, _ := uroute.Bytes(u)
		b = cat(b, one)
	}
	return b
}
