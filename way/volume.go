package way

import (
	"anvil/disk"
	"anvil/layout"
)

// volume is the disk with the stamps of this start.
type volume struct {
	disk  *disk.Disk
	start uint32
	count uint32
}

func (v *volume) stamp() layout.Stamp {
	v.count++
	return layout.Stamp{Start: v.start, Count: v.count}
}
