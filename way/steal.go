package way

import (
	"slices"

	"anvil/api"
)

// steal changes the pages at once, and takes back what is not committed by the
// Old of the log's entries.
type steal struct{ core }

func (s *steal) Read(t int, key string) api.Cell {
	s.grant(t, key, asRead)
	return s.pages.get(key)
}

func (s *steal) Write(t int, key string, to api.Cell) {
	s.actions++
	s.grant(t, key, asWritten)
	s.enter(t, api.Entry{Kind: api.Update, Key: key, Old: s.pages.get(key), New: to})
	s.pages.set(key, to)
}

func (s *steal) Commit(t int) {
	if s.open[t].last > 0 {
		s.enter(t, api.Entry{Kind: api.Commit})
		s.log.force()
	}
	delete(s.open, t)
}

func (s *steal) Abort(t int) {
	updates := s.backward(t, s.log.entries())
	for _, u := range updates {
		s.enter(t, api.Entry{Kind: api.Undone, Next: u.Prev, Key: u.Key, New: u.Old})
		s.pages.set(u.Key, u.Old)
	}
	if len(updates) > 0 {
		s.enter(t, api.Entry{Kind: api.End})
	}
	delete(s.open, t)
}

// backward tells the updates of an open transaction, the last one first.
func (s *steal) backward(t int, entries []api.Entry) []api.Entry {
	var updates []api.Entry
	for at := s.open[t].last; at > 0; at = entries[at-1].Prev {
		updates = append(updates, entries[at-1])
	}
	return updates
}

// Committed takes back, of what the pages hold, all that open transactions did.
// No two of them have written one key, so their order does not matter.
func (s *steal) Committed() []api.Pair {
	cells, entries := s.pages.cells(), s.log.entries()
	for t := range s.open {
		for _, u := range s.backward(t, entries) {
			cells[u.Key] = u.Old
		}
	}
	return sorted(cells)
}

// changes repeats all that the log tells, and then takes back, the last one
// first, all that transactions did that have not ended. What such a one had
// itself taken back already comes out the same: nobody else had the key since.
func (s *steal) changes(log []api.Entry) []change {
	var all []change
	for _, e := range log {
		if e.Kind == api.Update || e.Kind == api.Undone {
			all = append(all, change{e.Key, e.New})
		}
	}
	ended := endedIn(log)
	for _, e := range slices.Backward(log) {
		if _, is := ended[e.Tx]; !is && e.Kind == api.Update {
			all = append(all, change{e.Key, e.Old})
		}
	}
	return all
}
