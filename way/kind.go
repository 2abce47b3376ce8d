// Package way: the two ways of coming back, as two kinds of one interface, and what both share.
package way

import (
	"anvil/api"
	"anvil/disk"
	"anvil/layout"
)

// Kind is a way of coming back: it rules when what a transaction makes of keys
// goes to the log and to the pages. A call that may be refused has a May beside
// it; it is called only where that answered OK.
type Kind interface {
	Begin() (int, api.Errno)
	MayRead(t int, key string) api.Errno
	MayWrite(t int, key string, to api.Cell) api.Errno
	MayEnd(t int) api.Errno
	Checkpoint() api.Errno
	Entries() []api.Entry

	Read(t int, key string) api.Cell
	Write(t int, key string, to api.Cell)
	Commit(t int)
	Abort(t int)
	Committed() []api.Pair

	// changes tells what to make of the pages, in this order, so that they hold
	// what is committed: of a log that this kind has written.
	changes(log []api.Entry) []change
}

// Known tells whether there is a kind of this mode.
func Known(mode int) bool { return mode == api.Steal || mode == api.NoSteal }

// New makes a store of a known mode on an empty disk.
func New(mode int, d *disk.Disk) Kind {
	return startAs(mode, firstStart(d))
}

// startAs makes a store with an empty log on a disk whose pages hold what is committed.
func startAs(mode int, v *volume) Kind {
	v.mark(layout.Master{Log: v.start, Mode: mode})
	return kindOf(mode, v)
}

func kindOf(mode int, v *volume) Kind {
	if mode == api.NoSteal {
		return &noSteal{newCore(v), map[int]map[string]api.Cell{}}
	}
	return &steal{newCore(v)}
}
