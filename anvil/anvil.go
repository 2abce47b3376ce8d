// Package anvil: a store with transactions, on a disk that may fail: see DOC.md.
package anvil

import (
	"strings"

	"anvil/api"
	"anvil/disk"
	"anvil/way"
)

// Store is a store on a disk of its own.
type Store struct {
	mode int
	disk *disk.Disk
	way  way.Kind // nil, if the store is dead: all that was in memory is lost
}

// New makes a store on an empty disk (P3).
func New(mode int) (*Store, api.Errno) {
	if !way.Known(mode) {
		return nil, api.ErrMode
	}
	d := &disk.Disk{}
	return &Store{mode, d, way.New(mode, d)}, api.OK
}

// Open makes a store of what is committed on a disk that holds these bytes (P4).
func Open(mode int, image []byte) (*Store, api.Errno) {
	if !way.Known(mode) {
		return nil, api.ErrMode
	}
	from, whole := disk.Of(image)
	if !whole {
		return nil, api.ErrCorrupt
	}
	s := &Store{mode: mode, disk: &disk.Disk{}}
	if e := s.comeBack(func() way.Kind { return way.Adopt(mode, from, s.disk) }); e != api.OK {
		return nil, e
	}
	return s, api.OK
}

// Begin begins a transaction (P6).
func (s *Store) Begin() (int, api.Errno) {
	if s.dead() {
		return 0, api.ErrDead
	}
	return s.way.Begin()
}

// Get reads a key (P7).
func (s *Store) Get(t int, key string) (api.Cell, api.Errno) {
	if s.dead() {
		return api.Cell{}, api.ErrDead
	}
	if e := s.way.MayRead(t, key); e != api.OK {
		return api.Cell{}, e
	}
	return s.way.Read(t, strings.Clone(key)), api.OK
}

// Put writes a key (P7).
func (s *Store) Put(t int, key string, val string) api.Errno {
	return s.write(t, key, api.Cell{Is: true, Val: val})
}

// Delete takes a key away (P7).
func (s *Store) Delete(t int, key string) api.Errno {
	return s.write(t, key, api.Cell{})
}

// write clones what it hands on: nothing of the caller's is kept (P2).
func (s *Store) write(t int, key string, to api.Cell) api.Errno {
	return s.alive(func() api.Errno {
		if e := s.way.MayWrite(t, key, to); e != api.OK {
			return e
		}
		to.Val = strings.Clone(to.Val)
		s.way.Write(t, strings.Clone(key), to)
		return api.OK
	})
}

// Commit ends a transaction: what it did holds (P8).
func (s *Store) Commit(t int) api.Errno {
	return s.end(t, func() { s.way.Commit(t) })
}

// Abort ends a transaction: what it did is undone (P8).
func (s *Store) Abort(t int) api.Errno {
	return s.end(t, func() { s.way.Abort(t) })
}

func (s *Store) end(t int, how func()) api.Errno {
	return s.alive(func() api.Errno {
		if e := s.way.MayEnd(t); e != api.OK {
			return e
		}
		how()
		return api.OK
	})
}

// Checkpoint shortens the way back (P9).
func (s *Store) Checkpoint() api.Errno {
	return s.alive(func() api.Errno { return s.way.Checkpoint() })
}

// Dump tells all that is committed (P10).
func (s *Store) Dump() ([]api.Pair, api.Errno) {
	if s.dead() {
		return nil, api.ErrDead
	}
	return s.way.Committed(), api.OK
}

// Log tells the log's entries (P11).
func (s *Store) Log() ([]api.Entry, api.Errno) {
	if s.dead() {
		return nil, api.ErrDead
	}
	return s.way.Entries(), api.OK
}

// Image tells what the disk would hold if it failed now (P12).
func (s *Store) Image(keep uint64) []byte { return s.disk.Image(keep) }

// Arm has the disk fail at a write to come (P13).
func (s *Store) Arm(n int) {
	if !s.dead() {
		s.disk.Arm(n)
	}
}

// Restart has the disk fail, and comes back (P14).
func (s *Store) Restart(keep uint64, tear int, fuse int) api.Errno {
	s.disk.Fail(keep, tear)
	s.disk.Arm(fuse)
	e := s.comeBack(func() way.Kind { return way.Back(s.mode, s.disk) })
	s.disk.Arm(0) // the fuse was for the way back alone
	return e
}

func (s *Store) comeBack(how func() way.Kind) api.Errno {
	return s.caught(func() api.Errno {
		s.way = how()
		return api.OK
	})
}

func (s *Store) dead() bool { return s.way == nil }

// alive does what may write, unless the store is dead (P5).
func (s *Store) alive(do func() api.Errno) api.Errno {
	if s.dead() {
		return api.ErrDead
	}
	return s.caught(do)
}

// caught tells of a disk that failed in the midst of what was done, or that holds
// what no store has written. Either way there is no store in memory any more.
func (s *Store) caught(do func() api.Errno) (e api.Errno) {
	defer func() {
		switch p := recover().(type) {
		case nil:
			return
		case disk.Failure:
			e = api.ErrCrash
		case way.Foreign:
			e = api.ErrCorrupt
		default:
			panic(p)
		}
		s.way = nil
	}()
	return do()
}
