// Package way: the two ways of coming back, as two kinds of one interface, and what both share.
package way

import (
	"anvil/api"
	"anvil/disk"
)

// Kind is a way of coming back: it rules when what a transaction makes of keys
// goes to the log and to the pages. A call that may be refused has a May beside
// it; it is called only where that answered OK.
type Kind interface {
	Begin() (int, api.Errno)
	MayRead(t int, key string) api.Errno
	MayWrite(t int, key string, to api.Cell) api.Errno
	MayEnd(t int) api.Errno
	Checkpoint() api.Errno
	Entries() []api.Entry

	Read(t int, key string) api.Cell
	Write(t int, key string, to api.Cell)
	Commit(t int)
	Abort(t int)
	Committed() []api.Pair
}

// New makes a store of this mode on an empty disk.
func New(mode int, d *disk.Disk) (Kind, api.Errno) {
	switch mode {
	case api.Steal:
		return &steal{newCore(d)}, api.OK
	case api.NoSteal:
		return &noSteal{newCore(d), map[int]map[string]api.Cell{}}, api.OK
	}
	return nil, api.ErrMode
}
