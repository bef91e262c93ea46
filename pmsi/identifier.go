package pmsi

import (
	"slices"

	"vinery/addr"
	"vinery/api"
	"vinery/cursor"
)

// The sizes of addresses.
const (
	sizeFour = 4
	sizeSix  = 16
)

// What stands in identifiers of TunnelRsvp: between the first bytes of its Id and the others is a gap.
const (
	rsvpFirst  = 4
	rsvpGap    = 2
	rsvpOthers = 2
)

// What stands ahead of the root in identifiers of TunnelMldp and TunnelMesh, and how many bytes tell how many Id has.
const (
	mldp, mesh  = 6, 7
	four, six   = 1, 2
	sizeOfWhich = 3 // that of the first number, and the family's
	sizeOfCount = 2
)

// identified tells whether one's Root (an address that is right) and Id are such as its Kind asks for.
func identified(t api.Tunnel) bool {
	root, id := t.Root.Size, len(t.Id)
	switch t.Kind {
	case api.TunnelNone:
		return root == 0 && id == 0
	case api.TunnelRsvp:
		return root == sizeFour && id == rsvpFirst+rsvpOthers
	case api.TunnelMldp, api.TunnelMesh:
		return root > 0 && id <= api.MaxId
	case api.TunnelSsm, api.TunnelSm, api.TunnelBidir:
		group, _ := addr.Of(t.Id)
		return root == id && addr.Multicast(group)
	case api.TunnelCopies:
		return root > 0 && id == 0
	}
	return false
}

// identifier is the one of a tunnel that is right. All but one begin with their Root and end with their Id: just where no Kind tells how long that is, more must stand there.
func identifier(t api.Tunnel) []byte {
	b := addr.Bytes(t.Root)
	switch t.Kind {
	case api.TunnelRsvp:
		return slices.Concat(t.Id[:rsvpFirst], make([]byte, rsvpGap), t.Id[rsvpFirst:], b)
	case api.TunnelMldp, api.TunnelMesh:
		b, _ = cursor.Put(append(which(t), b...), len(t.Id), sizeOfCount)
		fallthrough
	case api.TunnelSsm, api.TunnelSm, api.TunnelBidir:
		b = append(b, t.Id...)
	}
	return b
}

// which tells ahead of a root which tunnel it is, and whose address comes.
func which(t api.Tunnel) []byte {
	kind, family := byte(mldp), byte(four)
	if t.Kind == api.TunnelMesh {
		kind = mesh
	}
	if t.Root.Size == sizeSix {
		family = six
	}
	return []byte{kind, 0, family, byte(t.Root.Size)}
}

// parts are the bytes of the Root and the Id that an identifier would have, of those that are left.
func parts(r *cursor.Reader, kind int) (root, id []byte) {
	switch kind {
	case api.TunnelRsvp:
		first := r.Take(rsvpFirst)
		r.Take(rsvpGap)
		id = append(first, r.Take(rsvpOthers)...)
		return r.Take(r.Left()), id
	case api.TunnelMldp, api.TunnelMesh:
		r.Take(sizeOfWhich)
		root = r.Take(r.Num(1))
		r.Take(sizeOfCount)
	case api.TunnelSsm, api.TunnelSm, api.TunnelBidir:
		root = r.Take(r.Left() / 2)
	default:
		root = r.Take(r.Left())
	}
	return root, r.Take(r.Left())
}
