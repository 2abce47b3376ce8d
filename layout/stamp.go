// Package layout: what stands where on the disk, and how it is made of bytes.
package layout

import (
	"cmp"
	"math"

	"anvil/api"
	"anvil/disk"
)

const (
	stampBytes = 8
	bodyBytes  = api.Sector - 2*stampBytes
)

// Stamp tells one write of a sector from every other write of it: the number
// of the start that wrote it, and a count. It stands at the beginning and at
// the end of the sector, so that a torn write shows without a checksum.
type Stamp struct {
	Start, Count uint32
}

// Above tells whether s is of a later write than o.
func (s Stamp) Above(o Stamp) bool {
	return cmp.Or(cmp.Compare(s.Start, o.Start), cmp.Compare(s.Count, o.Count)) > 0
}

// The high bytes come first: a start's number is far too small to begin with the
// byte with which Wiped begins.
func (s Stamp) bytes() []byte {
	return appendNumber(appendNumber(nil, int(s.Start), 4), int(s.Count), 4)
}

func stampOf(b []byte) Stamp {
	r := reader{rest: b}
	return Stamp{Start: uint32(r.number(4)), Count: uint32(r.number(4))}
}

// noStamp is the stamp of no write of a start.
func noStamp() Stamp { return Stamp{math.MaxUint32, math.MaxUint32} }

// Wiped is what a torn sector is made before anything else is written to it.
// Else what is torn once more might have like stamps at its ends by chance, made
// of three writes. No stamp begins as this one does, so Wiped may be torn too.
func Wiped() disk.Block { return seal(noStamp(), nil) }

// Torn tells whether a sector has not all of one write.
func Torn(b disk.Block) bool {
	first, last := ends(b)
	return first != last
}

// StartOf tells the start that wrote a sector, 0 if there is none: the sector
// was never written, or is torn or wiped.
func StartOf(b disk.Block) uint32 {
	s, _, _ := unseal(b)
	return s.Start
}

func ends(b disk.Block) (first, last Stamp) {
	return stampOf(b[:stampBytes]), stampOf(b[api.Sector-stampBytes:])
}

func seal(s Stamp, body []byte) disk.Block {
	var b disk.Block
	copy(b[:], s.bytes())
	copy(b[stampBytes:], body)
	copy(b[api.Sector-stampBytes:], s.bytes())
	return b
}

// unseal tells no body of a sector that is torn or wiped.
func unseal(b disk.Block) (Stamp, []byte, bool) {
	s, _ := ends(b)
	if Torn(b) || s == noStamp() {
		return Stamp{}, nil, false
	}
	return s, b[stampBytes : stampBytes+bodyBytes], true
}
