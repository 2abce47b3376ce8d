package way

import (
	"maps"
	"slices"

	"anvil/api"
)

// noSteal keeps what a transaction makes of keys beside the pages until it is
// committed, so that the disk never has anything to be taken back.
type noSteal struct {
	core
	made map[int]map[string]api.Cell // by transaction and key
}

func (n *noSteal) Read(t int, key string) api.Cell {
	n.grant(t, key, asRead)
	if c, written := n.made[t][key]; written {
		return c
	}
	return n.pages.get(key)
}

func (n *noSteal) Write(t int, key string, to api.Cell) {
	n.actions++
	n.grant(t, key, asWritten)
	if n.made[t] == nil {
		n.made[t] = map[string]api.Cell{}
	}
	n.made[t][key] = to
}

// Commit changes the pages behind the sync: before it the changes may be lost.
func (n *noSteal) Commit(t int) {
	made := n.made[t]
	keys := slices.Sorted(maps.Keys(made))
	for _, key := range keys {
		n.enter(t, api.Entry{Kind: api.Update, Key: key, Old: n.pages.get(key), New: made[key]})
	}
	if len(keys) > 0 {
		n.enter(t, api.Entry{Kind: api.Commit})
		n.log.force()
	}
	for _, key := range keys {
		n.pages.set(key, made[key])
	}
	n.end(t)
}

func (n *noSteal) Abort(t int) { n.end(t) }

func (n *noSteal) end(t int) {
	delete(n.made, t)
	delete(n.open, t)
}

func (n *noSteal) Committed() []api.Pair { return sorted(n.pages.cells()) }

// changes does again what was committed. The pages have nothing else, and the
// log no other end of a transaction.
func (n *noSteal) changes(log []api.Entry) []change {
	var all []change
	ended := endedIn(log)
	for _, e := range log {
		if _, is := ended[e.Tx]; is && e.Kind == api.Update {
			all = append(all, change{e.Key, e.New})
		}
	}
	return all
}
