package way

import (
	"anvil/api"
	"anvil/disk"
	"anvil/layout"
)

// volume is the disk with the stamps of this start, and its master record.
type volume struct {
	disk  *disk.Disk
	start uint32
	count uint32
	turn  int // which copy of the master record is the newer one
}

// firstStart is of an empty disk, whose sectors have the number 0.
func firstStart(d *disk.Disk) *volume { return &volume{disk: d, start: 1} }

// lastStart tells the greatest number of a start that stands anywhere on the
// disk: no sector must pass for one of a start to come.
func lastStart(d *disk.Disk) uint32 {
	var most uint32
	for at := range api.Sectors {
		most = max(most, layout.StartOf(d.Read(at)))
	}
	return most
}

// wipe leaves no sector torn. It comes ahead of all other writes of a start: so
// each of them goes to a sector that has all of one write, and what is torn of
// it shows.
func wipe(d *disk.Disk) {
	for at := range api.Sectors {
		if layout.Torn(d.Read(at)) {
			d.Write(at, layout.Wiped())
		}
	}
	d.Sync()
}

func (v *volume) stamp() layout.Stamp {
	v.count++
	return layout.Stamp{Start: v.start, Count: v.count}
}

// find reads the newer master record.
func (v *volume) find() layout.Master {
	turn, m, found := newer(func(turn int) (layout.Stamp, layout.Master, bool) {
		return layout.UnpackMaster(v.disk.Read(layout.MasterAt(turn)))
	})
	if !found || !Known(m.Mode) {
		panic(Foreign("there is no master record"))
	}
	v.turn = turn
	return m
}

// mark makes a master record lasting, in place of the older one.
func (v *volume) mark(m layout.Master) {
	v.turn = other(v.turn)
	v.disk.Write(layout.MasterAt(v.turn), layout.PackMaster(v.stamp(), m))
	v.disk.Sync()
}

// other tells the copy that is not this one.
func other(turn int) int { return (turn + 1) % layout.Copies }

// newer tells which copy of a record is whole and written last. Stamp zero is of
// what was never written; if both copies are, the second is told, so that the
// first write comes to the first one.
func newer[R any](read func(turn int) (layout.Stamp, R, bool)) (at int, record R, found bool) {
	var latest layout.Stamp
	at = layout.Copies - 1
	for turn := range layout.Copies {
		if s, r, whole := read(turn); whole && s.Above(latest) {
			at, record, found, latest = turn, r, true, s
		}
	}
	return at, record, found
}
