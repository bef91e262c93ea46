package message_test

import (
	"slices"

	"vinery/api"
	"vinery/update"
)

// number is the one that bytes are, the highest first.
func number(b []byte) int {
	n := 0
	for _, one := range b {
		n = n*256 + int(one)
	}
	return n
}

// modelKnown is the place of a family among the four: -1, if it is none.
func modelKnown(f api.Family) int { return slices.Index(families, f) }

// modelRight tells of a message whether it is.
func modelRight(m api.Message) bool {
	rest := m
	ok := false
	switch m.Kind {
	case kindOpen:
		o := m.Open
		ok = o.AS > 0 && o.AS < 1<<32 && o.Hold >= 0 && o.Hold < 1<<16 && o.Hold != 1 && o.Hold != 2 && o.Id != v4(0, 0, 0, 0) && o.Id == v4(o.Id.B[0], o.Id.B[1], o.Id.B[2], o.Id.B[3])
		came := map[api.Family]int{}
		for _, f := range o.Families {
			came[f]++
			ok = ok && modelKnown(f) >= 0 && came[f] == 1
		}
		rest.Open = api.Open{}
	case kindUpdate:
		ok = update.Right(m.Update)
		rest.Update = api.Update{}
	case kindNote:
		n := m.Note
		ok = n.Code == int(byte(n.Code)) && n.Sub == int(byte(n.Sub)) && len(n.Data) <= mostData
		rest.Note = api.Note{}
	case kindAlive:
		ok = true
	case kindRefresh:
		ok = modelKnown(m.Family) >= 0
		rest.Family = api.Family{}
	}
	return ok && equal(zeroed(api.Message{Open: rest.Open, Update: rest.Update, Note: rest.Note, Family: rest.Family}), api.Message{})
}

// modelBytes are the body of a message that is right.
func modelBytes(m api.Message) ([]byte, api.Errno) {
	switch m.Kind {
	case kindOpen:
		return modelOpenBytes(m.Open), api.OK
	case kindUpdate:
		return update.Bytes(m.Update)
	case kindNote:
		return cat([]byte{byte(m.Note.Code), byte(m.Note.Sub)}, m.Note.Data), api.OK
	case kindRefresh:
		return familyBytes[modelKnown(m.Family)], api.OK
	}
	return nil, api.OK
}

func modelOpenBytes(o api.Open) []byte {
	back := capAS(o.AS)
	if o.Refresh {
		back = cat([]byte{2, 0}, back)
	}
	for i := range o.Families {
		back = cat([]byte{1, 4}, familyBytes[modelKnown(o.Families[len(o.Families)-1-i])], back)
	}
	short := o.AS
	if short >= 1<<16 {
		short = 23456
	}
	n := len(back)
	return cat([]byte{4, byte(short / 256), byte(short % 256), byte(o.Hold / 256), byte(o.Hold % 256)}, o.Id.B[:4], []byte{byte(n + 2), 2, byte(n)}, back)
}

// modelHead reads a head of HeadSize bytes at least: its Kind, the length of its body, and the Note of what is wrong.
func modelHead(b []byte) (kind, size int, note api.Note) {
	length, kind := number(b[16:18]), int(b[18])
	span, there := spans[kind]
	switch {
	case slices.Min(b[:16]) != 255:
		return 0, 0, api.Note{Code: 1, Sub: 1}
	case length < 19 || length > 4096 || there && (length < span[0] || length > span[1]):
		return 0, 0, api.Note{Code: 1, Sub: 2, Data: b[16:18]}
	case !there:
		return 0, 0, api.Note{Code: 1, Sub: 3, Data: b[18:19]}
	}
	return kind, length - 19, api.Note{}
}

// modelBody reads a body, line by line as the chapter has it.
func modelBody(kind int, b []byte) (api.Message, int, api.Note) {
	m := api.Message{Kind: kind}
	end := func(code, sub int, data ...byte) (api.Message, int, api.Note) {
		return api.Message{}, 3, api.Note{Code: code, Sub: sub, Data: data}
	}
	switch {
	case kind == kindOpen:
		o, sub := modelOpen(b)
		if sub == 1 {
			return end(2, 1, 0, 4)
		} else if sub >= 0 {
			return end(2, sub)
		}
		m.Open = o
	case kind == kindUpdate:
		u, out, note := update.Parse(b)
		if out == 3 {
			return end(note.Code, note.Sub, note.Data...)
		}
		m.Update = u
		return m, out, note
	case kind == kindNote && len(b) < 2:
		return end(1, 2)
	case kind == kindNote:
		m.Note = api.Note{Code: int(b[0]), Sub: int(b[1]), Data: b[2:]}
	case kind == kindRefresh:
		f := modelFamily(b)
		if f < 0 {
			return m, 1, api.Note{}
		}
		m.Family = families[f]
	case kind != kindAlive:
		return end(1, 3)
	}
	return m, 0, api.Note{}
}

// modelFamily is the place of the family that bytes tell: -1, if they tell none that is known.
func modelFamily(b []byte) int {
	return slices.IndexFunc(familyBytes, func(f []byte) bool {
		return len(b) == 4 && b[0] == f[0] && b[1] == f[1] && b[3] == f[3]
	})
}

// modelOpen reads an open, and tells the Sub of the first thing that is wrong: -1, if nothing is.
func modelOpen(b []byte) (api.Open, int) {
	if len(b) < 10 || len(b) != 10+int(b[9]) {
		return api.Open{}, subWhole
	}
	if b[0] != 4 {
		return api.Open{}, subVersion
	}
	o := api.Open{AS: number(b[1:3]), Hold: number(b[3:5]), Id: v4(b[5], b[6], b[7], b[8])}
	for p := b[10:]; len(p) > 0; p = p[2+int(p[1]):] {
		if p[0] != 2 {
			return api.Open{}, subParam
		}
		if len(p) < 2 || len(p) < 2+int(p[1]) || !modelCapabilities(p[2:2+int(p[1])], &o) {
			return api.Open{}, subWhole
		}
	}
	switch {
	case o.AS == 0:
		return api.Open{}, subAS
	case o.Hold == 1 || o.Hold == 2:
		return api.Open{}, subHold
	case o.Id == v4(0, 0, 0, 0):
		return api.Open{}, subId
	}
	return o, -1
}

func modelCapabilities(b []byte, o *api.Open) bool {
	for len(b) > 0 {
		if len(b) < 2 || len(b) < 2+int(b[1]) || (b[0] == 1 || b[0] == 65) && b[1] != 4 {
			return false
		}
		value := b[2 : 2+int(b[1])]
		switch b[0] {
		case 1:
			if f := modelFamily(value); f >= 0 && !slices.Contains(o.Families, families[f]) {
				o.Families = append(o.Families, families[f])
			}
		case 2:
			o.Refresh = true
		case 65:
			o.AS = number(value)
		}
		b = b[2+len(value):]
	}
	return true
}
