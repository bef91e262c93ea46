package attr_test

import (
	"encoding/binary"
	"slices"

	"vinery/api"
	"vinery/pmsi"
)

// modelSplit cuts attributes out of bytes, place by place.
func modelSplit(b []byte) ([]api.Raw, api.Errno) {
	var l []api.Raw
	for len(b) > 0 {
		if len(l) == mostAttrs {
			return nil, api.ErrLong
		}
		head := 3
		if b[0]/16%2 == 1 {
			head = 4
		}
		if len(b) < head {
			return nil, api.ErrEnd
		}
		n := int(b[2])
		if head == 4 {
			n = n*256 + int(b[3])
		}
		if len(b) < head+n {
			return nil, api.ErrEnd
		}
		l = append(l, raw(int(b[0]&^16), int(b[1]), b[head:head+n]...))
		b = b[head+n:]
	}
	return l, api.OK
}

// modelRead reads attributes as the chapter's list has them.
func modelRead(l []api.Raw) (a api.Attrs, rest []api.Raw, out int) {
	a = nothing()
	first := func(kind int) int { return slices.IndexFunc(l, func(w api.Raw) bool { return w.Kind == kind }) }
	for i, w := range l {
		twice, comes := first(w.Kind) < i, 0
		switch want := flagsOf(w.Kind); {
		case w.Kind == 14 || w.Kind == 15:
			if twice || w.Flags != 128 {
				comes = 3
			}
			if !twice {
				rest = append(rest, w)
			}
		case want >= 0 && twice:
			comes = 1
		case want >= 0:
			if w.Flags != want && !(want == 192 && w.Flags == 224) || !modelValue(&a, w.Kind, w.Value) {
				comes = 2
			}
		case w.Flags/128%2 == 0:
			comes = 3
		case w.Flags/64%2 == 1:
			rest = append(rest, w)
		}
		out = max(out, comes)
	}
	if first(14) >= 0 && (first(1) < 0 || first(2) < 0) {
		out = max(out, 2)
	}
	return a, rest, out
}

// modelValue takes what a value of a known kind says: false, if it is not just one.
func modelValue(a *api.Attrs, kind int, b []byte) bool {
	n := len(b)
	switch kind {
	case 1:
		if n != 1 || b[0] > 2 {
			return false
		}
		a.Origin = int(b[0])
	case 2:
		return modelPath(a, b)
	case 4, 5:
		if n != 4 {
			return false
		}
		which := map[int]*int{4: &a.Med, 5: &a.Pref}
		*which[kind] = int(binary.BigEndian.Uint32(b))
	case 9:
		if n != 4 {
			return false
		}
		a.Originator = v4(b[0], b[1], b[2], b[3])
	case 10:
		if n == 0 || n%4 != 0 || n > 128 {
			return false
		}
		for c := range slices.Chunk(b, 4) {
			a.Clusters = append(a.Clusters, v4(c[0], c[1], c[2], c[3]))
		}
	case 16:
		if n == 0 || n%8 != 0 || n > 512 {
			return false
		}
		for c := range slices.Chunk(b, 8) {
			a.Exts = append(a.Exts, api.Ext(c))
		}
	case 22:
		u, e := pmsi.Parse(b)
		if e != api.OK {
			return false
		}
		a.Tunnels = []api.Tunnel{u}
	}
	return true
}

// modelPath takes a path.
func modelPath(a *api.Attrs, b []byte) bool {
	var l []api.Segment
	for len(b) > 0 {
		if len(b) < 2 || b[0] != 1 && b[0] != 2 || b[1] == 0 || len(b) < 2+4*int(b[1]) {
			return false
		}
		end := 2 + 4*int(b[1])
		s := api.Segment{Set: b[0] == 1}
		for c := range slices.Chunk(b[2:end], 4) {
			s.AS = append(s.AS, int(binary.BigEndian.Uint32(c)))
		}
		l, b = append(l, s), b[end:]
	}
	if len(l) > 16 {
		return false
	}
	a.Path = l
	return true
}

// modelRight tells of attributes whether they are.
func modelRight(a api.Attrs) bool {
	is4 := func(x api.Addr) bool { return x == v4(x.B[0], x.B[1], x.B[2], x.B[3]) }
	ok := a.Origin >= 0 && a.Origin < 3 && a.Med > -2 && a.Med < 1<<32 && a.Pref > -2 && a.Pref < 1<<32
	ok = ok && (a.Originator == api.Addr{} || is4(a.Originator)) && len(a.Path) < 17 && len(a.Clusters) < 33 && len(a.Exts) < 65 && len(a.Tunnels) < 2
	for _, s := range a.Path {
		ok = ok && len(s.AS) > 0 && len(s.AS) < 256
		for _, as := range s.AS {
			ok = ok && as >= 0 && as < 1<<32
		}
	}
	for _, c := range a.Clusters {
		ok = ok && is4(c)
	}
	for _, u := range a.Tunnels {
		ok = ok && pmsi.Right(u)
	}
	return ok
}

// modelWrite is the row of attributes that are right.
func modelWrite(a api.Attrs) []api.Raw {
	four := func(b []byte, n int) []byte { return binary.BigEndian.AppendUint32(b, uint32(n)) }
	var p, c, e []byte
	for _, s := range a.Path {
		p = append(p, 2, byte(len(s.AS)))
		if s.Set {
			p[len(p)-2] = 1
		}
		for _, as := range s.AS {
			p = four(p, as)
		}
	}
	for _, x := range a.Clusters {
		c = append(c, x.B[:4]...)
	}
	for _, x := range a.Exts {
		e = append(e, x[:]...)
	}
	l := []api.Raw{raw(64, 1, byte(a.Origin)), raw(64, 2, p...)}
	add := func(there bool, flags, kind int, b []byte) {
		if there {
			l = append(l, raw(flags, kind, b...))
		}
	}
	add(a.Med != -1, 128, 4, four(nil, a.Med))
	add(a.Pref != -1, 64, 5, four(nil, a.Pref))
	add(a.Originator.Size != 0, 128, 9, a.Originator.B[:4])
	add(len(c) > 0, 128, 10, c)
	add(len(e) > 0, 192, 16, e)
	for _, u := range a.Tunnels {
		b, _ := pmsi.Bytes(u)
		add(true, 192, 22, b)
	}
	return l
}
