package way

import (
	"maps"
	"slices"

	"anvil/api"
)

// hold tells how a transaction holds a key; the greater one bars more.
type hold int

const (
	asRead hold = 1 + iota
	asWritten
)

type transaction struct {
	last int // its last entry of the log, 0 if it has none
	held map[string]hold
}

// core is what both kinds share: who is open and holds what, the log, the pages.
type core struct {
	log     journal
	pages   pool
	open    map[int]*transaction
	begun   int // transactions since the start
	actions int // since the start
}

func newCore(v *volume) core {
	return core{log: journal{volume: v}, pages: newPool(v), open: map[int]*transaction{}}
}

// Begin opens the next transaction.
func (c *core) Begin() (int, api.Errno) {
	if len(c.open) >= api.MaxOpen {
		return 0, api.ErrMany
	}
	if c.spent() {
		return 0, api.ErrFull
	}
	c.actions++
	c.begun++
	c.open[c.begun] = &transaction{held: map[string]hold{}}
	return c.begun, api.OK
}

func (c *core) spent() bool { return c.actions >= api.MaxActions }

// MayRead tells why t may not read a key, or OK.
func (c *core) MayRead(t int, key string) api.Errno {
	if e := c.mayName(t, key); e != api.OK {
		return e
	}
	if c.heldByOthers(t, key) == asWritten {
		return api.ErrLock
	}
	return api.OK
}

// MayWrite tells why t may not make a key this cell, or OK.
func (c *core) MayWrite(t int, key string, to api.Cell) api.Errno {
	if e := c.mayName(t, key); e != api.OK {
		return e
	}
	if len(to.Val) > api.MaxValue {
		return api.ErrValue
	}
	if c.heldByOthers(t, key) >= asRead {
		return api.ErrLock
	}
	if c.spent() || !c.hasRoom(key) {
		return api.ErrFull
	}
	return api.OK
}

// MayEnd tells why t may not be committed or aborted, or OK.
func (c *core) MayEnd(t int) api.Errno {
	if c.open[t] == nil {
		return api.ErrTx
	}
	return api.OK
}

func (c *core) mayName(t int, key string) api.Errno {
	if e := c.MayEnd(t); e != api.OK {
		return e
	}
	if len(key) < 1 || len(key) > api.MaxKey {
		return api.ErrKey
	}
	return api.OK
}

func (c *core) heldByOthers(t int, key string) hold {
	var most hold
	for number, other := range c.open {
		if number != t {
			most = max(most, other.held[key])
		}
	}
	return most
}

// hasRoom tells whether the key's page holds it already, or has a slot for it.
// A slot is kept for what is committed and for what is held as written, so that
// any of the open transactions may end either way: a key that an open one has
// taken off the page is held by it, so these two are the page's keys and the
// held ones in either kind.
func (c *core) hasRoom(key string) bool {
	n := pageOf(key)
	kept := map[string]hold{}
	for _, p := range c.pages.page(n).pairs {
		kept[p.Key] = asWritten
	}
	for _, tx := range c.open {
		for k, h := range tx.held {
			if h == asWritten && pageOf(k) == n {
				kept[k] = asWritten
			}
		}
	}
	return kept[key] == asWritten || len(kept) < api.Slots
}

// grant has t hold a key until it ends. What it holds as written it does not
// come to hold as read only.
func (c *core) grant(t int, key string, h hold) {
	held := c.open[t].held
	held[key] = max(held[key], h)
}

// enter puts an entry of t into the log, behind the last one of t.
func (c *core) enter(t int, e api.Entry) {
	tx := c.open[t]
	e.Tx, e.Prev = t, tx.last
	tx.last = c.log.add(e)
}

// Checkpoint brings the pages in memory to the disk.
func (c *core) Checkpoint() api.Errno {
	if c.spent() {
		return api.ErrFull
	}
	c.actions++
	c.log.add(api.Entry{Kind: api.Check})
	c.log.force()
	c.pages.flush()
	return api.OK
}

// Entries tells the log's entries since the start.
func (c *core) Entries() []api.Entry { return c.log.entries() }

// sorted tells the cells that are something, by rising keys.
func sorted(cells map[string]api.Cell) []api.Pair {
	var pairs []api.Pair
	for _, key := range slices.Sorted(maps.Keys(cells)) {
		if c := cells[key]; c.Is {
			pairs = append(pairs, api.Pair{Key: key, Val: c.Val})
		}
	}
	return pairs
}
