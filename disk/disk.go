// Package disk: a disk made of bytes in memory, whose writes are not lasting before they are synced.
package disk

import (
	"slices"

	"anvil/api"
)

// Block is what one sector holds.
type Block [api.Sector]byte

type write struct {
	at   int
	data Block
}

// Disk is a disk of api.Sectors sectors. The zero Disk is an empty one.
type Disk struct {
	lasting  [api.Sectors]Block
	unsynced []write // the oldest first
}

// Of makes a disk that holds the bytes of an image: false, if they are not as
// many as a disk has.
func Of(image []byte) (*Disk, bool) {
	if len(image) != api.Sectors*api.Sector {
		return nil, false
	}
	d := &Disk{}
	for at := range d.lasting {
		copy(d.lasting[at][:], image[at*api.Sector:])
	}
	return d, true
}

// Write writes a sector. It is lasting behind the next Sync.
func (d *Disk) Write(at int, data Block) {
	d.unsynced = append(d.unsynced, write{at, data})
}

// Read tells what was written last to a sector, lasting or not.
func (d *Disk) Read(at int) Block {
	for _, w := range slices.Backward(d.unsynced) {
		if w.at == at {
			return w.data
		}
	}
	return d.lasting[at]
}

// Sync makes all writes lasting that were done so far.
func (d *Disk) Sync() {
	for _, w := range d.unsynced {
		d.lasting[w.at] = w.data
	}
	d.unsynced = nil
}

// Fail loses the unsynced writes, but for those whose number modulo 64 is the
// place of a 1 in keep.
func (d *Disk) Fail(keep uint64) {
	d.lasting = d.left(keep)
	d.unsynced = nil
}

// Image tells the bytes that Fail would leave.
func (d *Disk) Image(keep uint64) []byte {
	image := make([]byte, 0, api.Sectors*api.Sector)
	for _, b := range d.left(keep) {
		image = append(image, b[:]...)
	}
	return image
}

func (d *Disk) left(keep uint64) [api.Sectors]Block {
	left := d.lasting
	for i, w := range d.unsynced {
		if keep>>(i%64)&1 == 1 {
			left[w.at] = w.data
		}
	}
	return left
}
