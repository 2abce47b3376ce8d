package layout

import (
	"anvil/api"
	"anvil/disk"
)

const (
	Copies    = 2 // of the master record, which comes first, and of each page
	halves    = 2 // sectors of a copy
	halfSlots = api.Slots / halves
)

// Copy is the sectors of one copy of a page.
type Copy [halves]disk.Block

// PageAt tells the first sector of a copy of a page.
func PageAt(page, turn int) int {
	return MasterAt(Copies) + (page*Copies+turn)*halves
}

// PackPage makes the sectors of a page of at most api.Slots keys. Both have the
// same stamp, so that halves of two writes are never taken for a page.
func PackPage(s Stamp, pairs []api.Pair) Copy {
	var slots [api.Slots]api.Pair
	copy(slots[:], pairs)
	var c Copy
	for i := range c {
		var b []byte
		for _, p := range slots[i*halfSlots : (i+1)*halfSlots] {
			b = appendText(b, p.Key, api.MaxKey)
			b = appendText(b, p.Val, api.MaxValue)
		}
		c[i] = seal(s, b)
	}
	return c
}

// UnpackPage reads the sectors of a page: false, if they hold none.
func UnpackPage(c Copy) (Stamp, []api.Pair, bool) {
	first, pairs, ok := unpackHalf(c[0])
	for _, half := range c[1:] {
		s, more, whole := unpackHalf(half)
		ok = ok && whole && s == first
		pairs = append(pairs, more...)
	}
	if !ok {
		return Stamp{}, nil, false
	}
	return first, pairs, true
}

func unpackHalf(b disk.Block) (Stamp, []api.Pair, bool) {
	s, body, whole := unseal(b)
	if !whole {
		return Stamp{}, nil, false
	}
	r := reader{rest: body}
	var pairs []api.Pair
	for range halfSlots {
		p := api.Pair{Key: r.text(api.MaxKey), Val: r.text(api.MaxValue)}
		if p.Key != "" { // a free slot has no key
			pairs = append(pairs, p)
		}
	}
	return s, pairs, !r.bad
}
