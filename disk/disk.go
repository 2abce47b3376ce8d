// Package disk: a disk made of bytes in memory, whose writes are not lasting before they are synced, and which may fail at a write.
package disk

import (
	"slices"

	"anvil/api"
)

// Block is what one sector holds.
type Block [api.Sector]byte

type write struct {
	at   int
	data Block
}

// Failure is what a write panics with at which the disk fails: it fails in the
// midst of whatever is being done.
type Failure struct{}

// Disk is a disk of api.Sectors sectors. The zero Disk is an empty one.
type Disk struct {
	lasting  [api.Sectors]Block
	unsynced []write // the oldest first
	fuse     int     // it fails at this write from now on; at none, if 0
	cut      *write  // the write at which it has failed, if at any
}

// Of makes a disk that holds the bytes of an image: false, if they are not as
// many as a disk has.
func Of(image []byte) (*Disk, bool) {
	if len(image) != api.Sectors*api.Sector {
		return nil, false
	}
	d := &Disk{}
	for at := range d.lasting {
		copy(d.lasting[at][:], image[at*api.Sector:])
	}
	return d, true
}

// Arm has the disk fail at the n-th write from now on, or at none, if n is not above 0.
func (d *Disk) Arm(n int) { d.fuse = max(n, 0) }

// Write writes a sector. It is lasting behind the next Sync.
func (d *Disk) Write(at int, data Block) {
	last := d.fuse == 1
	d.fuse = max(d.fuse-1, 0)
	if last {
		d.cut = &write{at, data}
		panic(Failure{})
	}
	d.unsynced = append(d.unsynced, write{at, data})
}

// Read tells what was written last to a sector, lasting or not.
func (d *Disk) Read(at int) Block {
	for _, w := range slices.Backward(d.unsynced) {
		if w.at == at {
			return w.data
		}
	}
	return d.lasting[at]
}

// Sync makes all writes lasting that were done so far.
func (d *Disk) Sync() {
	for _, w := range d.unsynced {
		d.lasting[w.at] = w.data
	}
	d.unsynced = nil
}

// Fail loses the unsynced writes, but for those whose number modulo 64 is the
// place of a 1 in keep. Of the write at which the disk has failed, if at any,
// the first tear bytes come behind them; none, if no write has as many. Then the
// disk works again, and no Arm holds.
func (d *Disk) Fail(keep uint64, tear int) {
	d.lasting = d.left(keep)
	if d.cut != nil && tear >= 0 && tear <= api.Sector {
		copy(d.lasting[d.cut.at][:tear], d.cut.data[:])
	}
	d.unsynced, d.fuse, d.cut = nil, 0, nil
}

// Image tells the bytes that Fail would leave, with nothing of the write at
// which the disk has failed.
func (d *Disk) Image(keep uint64) []byte {
	image := make([]byte, 0, api.Sectors*api.Sector)
	for _, b := range d.left(keep) {
		image = append(image, b[:]...)
	}
	return image
}

func (d *Disk) left(keep uint64) [api.Sectors]Block {
	left := d.lasting
	for i, w := range d.unsynced {
		if keep>>(i%64)&1 == 1 {
			left[w.at] = w.data
		}
	}
	return left
}
