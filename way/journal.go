package way

import (
	"anvil/api"
	"anvil/layout"
)

// journal is the log: it stands on the disk alone.
type journal struct {
	*volume
	length int
}

// add writes an entry behind the others and tells its number. It is not synced.
// There is always room: an action leads to at most two entries (an update and
// its undoing; a begin to one, at its transaction's end), and twice
// api.MaxActions is less than api.LogSectors.
func (j *journal) add(e api.Entry) int {
	j.length++
	j.disk.Write(layout.EntryAt(j.length), layout.PackEntry(j.stamp(), e))
	return j.length
}

// force makes all entries lasting.
func (j *journal) force() { j.disk.Sync() }

// entries reads the entries that this start has written.
func (j *journal) entries() []api.Entry { return j.entriesOf(j.start) }

// entriesOf reads the entries that a start has written, up to the first one
// that was lost: an entry is of use only with all those ahead of it.
func (v *volume) entriesOf(start uint32) []api.Entry {
	var all []api.Entry
	for i := range api.LogSectors {
		s, e, ok := layout.UnpackEntry(v.disk.Read(layout.EntryAt(i + 1)))
		if !ok || s.Start != start {
			break
		}
		all = append(all, e)
	}
	return all
}
