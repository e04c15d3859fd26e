package disk

import "imprimatur/api"

// What becomes of a write in a crash is told by the two high bits of its pick; the others are the number of bytes of a torn one.
const (
	lost      = 0
	performed = 1
	tornFirst = 2
	tornLast  = 3

	perKind = 64 // picks of one kind
)

// pickOf: the pick of the pending write i.
func pickOf(picks []byte, i int) byte {
	if len(picks) == 0 {
		return lost
	}
	return picks[i%len(picks)]
}

// crashed: a sector after a crash that came while it was overwritten, and whether the write counts. A torn one does, even if none of its bytes is written.
func crashed(before, after api.Block, pick byte) (api.Block, bool) {
	count := int(pick % perKind)
	switch pick / perKind {
	case performed:
		return after, true
	case tornFirst:
		return joined(after, before, count), true
	case tornLast:
		return joined(before, after, api.Sector-count), true
	}
	return before, false
}

// joined: the bytes of one block up to a cut, and from there on those of another.
func joined(first, last api.Block, cut int) api.Block {
	copy(last[:cut], first[:cut])
	return last
}
