package way

import (
	"cmp"
	"maps"
	"slices"

	"anvil/api"
	"anvil/layout"
)

// page is a page in memory.
type page struct {
	turn  int        // which of its copies on the disk is the newer one
	pairs []api.Pair // by rising keys
}

func byKey(p api.Pair, key string) int { return cmp.Compare(p.Key, key) }

func (p *page) get(key string) api.Cell {
	if at, found := slices.BinarySearchFunc(p.pairs, key, byKey); found {
		return api.Cell{Is: true, Val: p.pairs[at].Val}
	}
	return api.Cell{}
}

func (p *page) set(key string, to api.Cell) {
	at, found := slices.BinarySearchFunc(p.pairs, key, byKey)
	switch {
	case found && to.Is:
		p.pairs[at].Val = to.Val
	case found:
		p.pairs = slices.Delete(p.pairs, at, at+1)
	case to.Is:
		p.pairs = slices.Insert(p.pairs, at, api.Pair{Key: key, Val: to.Val})
	}
}

// pool is the pages: those in memory, and which of them the disk has not yet.
type pool struct {
	*volume
	pages   map[int]*page
	changed map[int]struct{}
}

func newPool(v *volume) pool {
	return pool{v, map[int]*page{}, map[int]struct{}{}}
}

// pageOf tells the page of a key: its bucket.
func pageOf(key string) int {
	sum := 0
	for i := range len(key) {
		sum += int(key[i])
	}
	return sum % api.Pages
}

// page has a page in memory.
func (p *pool) page(n int) *page {
	if p.pages[n] == nil {
		p.pages[n] = p.load(n)
	}
	return p.pages[n]
}

// load reads the newer copy of a page that is whole; a page that was never
// written is empty.
func (p *pool) load(n int) *page {
	turn, pairs, _ := newer(func(turn int) (layout.Stamp, []api.Pair, bool) {
		return layout.UnpackPage(p.read(n, turn))
	})
	return &page{turn, pairs}
}

func (p *pool) read(n, turn int) layout.Copy {
	var c layout.Copy
	for i := range c {
		c[i] = p.disk.Read(layout.PageAt(n, turn) + i)
	}
	return c
}

func (p *pool) get(key string) api.Cell { return p.page(pageOf(key)).get(key) }

func (p *pool) set(key string, to api.Cell) {
	n := pageOf(key)
	p.page(n).set(key, to)
	p.changed[n] = struct{}{}
}

// cells tells what all pages hold.
func (p *pool) cells() map[string]api.Cell {
	all := map[string]api.Cell{}
	for n := range api.Pages {
		for _, pair := range p.page(n).pairs {
			all[pair.Key] = api.Cell{Is: true, Val: pair.Val}
		}
	}
	return all
}

// flush writes the changed pages, each over the older of its copies, and leaves
// memory empty. The log must be synced first: the disk must not have a change
// that it could not undo. It ends with a sync, lest the next flush write over
// the older copy while the newer one is not lasting.
func (p *pool) flush() {
	for _, n := range slices.Sorted(maps.Keys(p.changed)) {
		p.write(n)
	}
	p.disk.Sync()
	clear(p.pages)
	clear(p.changed)
}

func (p *pool) write(n int) {
	from := p.page(n)
	at := layout.PageAt(n, other(from.turn))
	for i, half := range layout.PackPage(p.stamp(), from.pairs) {
		p.disk.Write(at+i, half)
	}
}
