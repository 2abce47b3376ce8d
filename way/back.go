package way

import (
	"slices"
	"sync"

	"anvil/api"
	"anvil/disk"
	"anvil/layout"
)

// change is what the way back makes of a key.
type change struct {
	key string
	to  api.Cell
}

// Foreign is what Adopt panics with on a disk that holds what no store has written.
type Foreign string

// Back makes a store of a known mode of what its disk holds, with an empty log.
//
// Until the master record at its end, what is committed is what the log makes of
// the pages, and that is the same whether or not a page has followed the log
// already: so the disk may fail anywhere on the way back.
func Back(mode int, d *disk.Disk) Kind {
	wipe(d)
	v := &volume{disk: d, start: lastStart(d) + 1}
	was := v.find()
	v.mark(was) // lest another start have this one's number
	pages := v.upToDate(was)
	pages.flush()
	return startAs(mode, v)
}

// Adopt makes a store of a known mode, on an empty disk, of what is committed on
// another one, which may be anybody's. Nothing else of that one comes along, its
// numbers neither: so those of this store begin as a new store's do, and however
// great the others are, and whatever they are of, they are in nobody's way.
func Adopt(mode int, from, to *disk.Disk) Kind {
	was := &volume{disk: from}
	theirs := was.upToDate(was.find())
	v := firstStart(to)
	ours := newPool(v)
	for _, p := range sorted(theirs.cells()) {
		ours.set(p.Key, api.Cell{Is: true, Val: p.Val})
	}
	ours.flush() // ahead of the master record: nobody can have this disk fail yet
	return startAs(mode, v)
}

// upToDate has all pages in memory as the log has left them. It is followed in
// the way of the kind that has written it, whatever the mode is of the store to come.
func (v *volume) upToDate(m layout.Master) pool {
	pages := newPool(v)
	pages.bringUp(kindOf(m.Mode, v).changes(v.entriesOf(m.Log)))
	return pages
}

// endedIn tells the transactions that were committed, or wholly taken back.
func endedIn(log []api.Entry) map[int]struct{} {
	ended := map[int]struct{}{}
	for _, e := range log {
		if e.Kind == api.Commit || e.Kind == api.End {
			ended[e.Tx] = struct{}{}
		}
	}
	return ended
}

// bringUp has all pages in memory, each with its changes made.
func (p *pool) bringUp(all []change) {
	var changed [api.Pages]bool
	var pages [api.Pages]*page
	var busy sync.WaitGroup
	for n := range api.Pages {
		busy.Add(1)
		go func() {
			defer busy.Done()
			pages[n] = p.load(n)
			changed[n] = pages[n].follow(n, all)
		}()
	}
	busy.Wait()
	for n, differs := range changed {
		if !pages[n].sound(n) {
			panic(Foreign("a page has keys that it cannot have"))
		}
		p.pages[n] = pages[n]
		if differs {
			p.changed[n] = struct{}{}
		}
	}
}

// follow makes those of the changes that are of page n, and tells whether it is
// another page now. Meanwhile it may have more keys than there is room for.
func (p *page) follow(n int, all []change) bool {
	before := slices.Clone(p.pairs)
	for _, c := range all {
		if pageOf(c.key) == n {
			p.set(c.key, c.to)
		}
	}
	return !slices.Equal(p.pairs, before)
}

// sound tells whether a store may have made page n so.
func (p *page) sound(n int) bool {
	for i, pair := range p.pairs {
		rising := i == 0 || p.pairs[i-1].Key < pair.Key
		if !rising || pair.Key == "" || pageOf(pair.Key) != n {
			return false
		}
	}
	return len(p.pairs) <= api.Slots
}
