// Package layout: what stands where on the disk, and how it is made of bytes.
package layout

import (
	"cmp"

	"anvil/api"
	"anvil/disk"
)

const (
	stampBytes = 8
	bodyBytes  = api.Sector - 2*stampBytes
)

// Stamp tells one write of a sector from every other write of it: the number
// of the start that wrote it, and a count. It stands at the beginning and at
// the end of the sector, so that a torn write shows without a checksum.
type Stamp struct {
	Start, Count uint32
}

// Above tells whether s is of a later write than o.
func (s Stamp) Above(o Stamp) bool {
	return cmp.Or(cmp.Compare(s.Start, o.Start), cmp.Compare(s.Count, o.Count)) > 0
}

// The high bytes come first, so that stamps rise as strings of bytes: what a
// torn stamp makes of the one beneath it is then never an older one again.
func (s Stamp) bytes() []byte {
	return appendNumber(appendNumber(nil, int(s.Start), 4), int(s.Count), 4)
}

func stampOf(b []byte) Stamp {
	r := reader{rest: b}
	return Stamp{Start: uint32(r.number(4)), Count: uint32(r.number(4))}
}

// LastStart tells the greater of the start numbers that a sector has at its
// ends, torn or not.
func LastStart(b disk.Block) uint32 {
	first, last := ends(b)
	return max(first.Start, last.Start)
}

func ends(b disk.Block) (first, last Stamp) {
	return stampOf(b[:stampBytes]), stampOf(b[api.Sector-stampBytes:])
}

func seal(s Stamp, body []byte) disk.Block {
	var b disk.Block
	copy(b[:], s.bytes())
	copy(b[stampBytes:], body)
	copy(b[api.Sector-stampBytes:], s.bytes())
	return b
}

// unseal tells no body of a sector that was torn.
func unseal(b disk.Block) (Stamp, []byte, bool) {
	first, last := ends(b)
	if first != last {
		return Stamp{}, nil, false
	}
	return first, b[stampBytes : stampBytes+bodyBytes], true
}
