package anvil

import (
	"cmp"
	"maps"
	"slices"

	"anvil/api"
)

// model says what a store must answer, as the document's words say it: it has
// no pages and no disk, and knows every entry of its log.
type model struct {
	mode           int
	committed      map[string]string
	open           map[int]*modelTx
	begun, actions int
	log            []api.Entry
}

type modelTx struct {
	read  map[string]bool
	wrote map[string]api.Cell
	last  int
}

func newModel(mode int) *model {
	m := &model{committed: map[string]string{}}
	m.start(mode)
	return m
}

// start is what New, Open and Restart do but for what is committed.
func (m *model) start(mode int) {
	*m = model{mode: mode, committed: m.committed, open: map[int]*modelTx{}}
}

// restore is a start with this committed.
func (m *model) restore(mode int, has []api.Pair) {
	m.start(mode)
	m.committed = map[string]string{}
	for _, p := range has {
		m.committed[p.Key] = p.Val
	}
}

func (m *model) begin() (int, api.Errno) {
	if len(m.open) == 4 {
		return 0, api.ErrMany
	}
	if m.actions == 120 {
		return 0, api.ErrFull
	}
	m.actions++
	m.begun++
	m.open[m.begun] = &modelTx{read: map[string]bool{}, wrote: map[string]api.Cell{}}
	return m.begun, api.OK
}

// others tells whether another transaction holds the key as read, as written.
func (m *model) others(t int, key string) (read, wrote bool) {
	for n, tx := range m.open {
		if n == t {
			continue
		}
		_, w := tx.wrote[key]
		read, wrote = read || tx.read[key], wrote || w
	}
	return read, wrote
}

func (m *model) seen(t int, key string) api.Cell {
	if c, ok := m.open[t].wrote[key]; ok {
		return c
	}
	return m.under(key)
}

func (m *model) under(key string) api.Cell {
	v, is := m.committed[key]
	return api.Cell{Is: is, Val: v}
}

func (m *model) get(t int, key string) (api.Cell, api.Errno) {
	if m.open[t] == nil {
		return api.Cell{}, api.ErrTx
	}
	if key == "" || len(key) > 8 {
		return api.Cell{}, api.ErrKey
	}
	if _, wrote := m.others(t, key); wrote {
		return api.Cell{}, api.ErrLock
	}
	m.open[t].read[key] = true
	return m.seen(t, key), api.OK
}

func bucketOf(key string) int {
	sum := 0
	for _, b := range []byte(key) {
		sum += int(b)
	}
	return sum % 8
}

func (m *model) full(key string) bool {
	counted := map[string]bool{}
	for k := range m.committed {
		counted[k] = true
	}
	for _, tx := range m.open {
		for k := range tx.wrote {
			counted[k] = true
		}
	}
	same := 0
	for k := range counted {
		if bucketOf(k) == bucketOf(key) {
			same++
		}
	}
	return same == 4 && !counted[key]
}

func (m *model) write(t int, key string, to api.Cell) api.Errno {
	if m.open[t] == nil {
		return api.ErrTx
	}
	if key == "" || len(key) > 8 {
		return api.ErrKey
	}
	if len(to.Val) > 12 {
		return api.ErrValue
	}
	if read, wrote := m.others(t, key); read || wrote {
		return api.ErrLock
	}
	if m.actions == 120 || m.full(key) {
		return api.ErrFull
	}
	m.actions++
	if m.mode == api.Steal {
		m.enter(t, api.Entry{Kind: api.Update, Key: key, Old: m.seen(t, key), New: to})
	}
	m.open[t].wrote[key] = to
	return api.OK
}

func (m *model) enter(t int, e api.Entry) {
	e.Tx, e.Prev = t, m.open[t].last
	m.log = append(m.log, e)
	m.open[t].last = len(m.log)
}

func (m *model) commit(t int) api.Errno {
	tx := m.open[t]
	if tx == nil {
		return api.ErrTx
	}
	for _, key := range slices.Sorted(maps.Keys(tx.wrote)) {
		to := tx.wrote[key]
		if m.mode == api.NoSteal {
			m.enter(t, api.Entry{Kind: api.Update, Key: key, Old: m.under(key), New: to})
		}
		delete(m.committed, key)
		if to.Is {
			m.committed[key] = to.Val
		}
	}
	if len(tx.wrote) > 0 {
		m.enter(t, api.Entry{Kind: api.Commit})
	}
	delete(m.open, t)
	return api.OK
}

func (m *model) abort(t int) api.Errno {
	tx := m.open[t]
	if tx == nil {
		return api.ErrTx
	}
	if m.mode == api.Steal && len(tx.wrote) > 0 {
		var updates []int // numbers of t's updates
		for i, e := range m.log {
			if e.Tx == t {
				updates = append(updates, i+1)
			}
		}
		for i := len(updates) - 1; i >= 0; i-- {
			u, next := m.log[updates[i]-1], 0
			if i > 0 {
				next = updates[i-1]
			}
			m.enter(t, api.Entry{Kind: api.Undone, Next: next, Key: u.Key, New: u.Old})
		}
		m.enter(t, api.Entry{Kind: api.End})
	}
	delete(m.open, t)
	return api.OK
}

func (m *model) checkpoint() api.Errno {
	if m.actions == 120 {
		return api.ErrFull
	}
	m.actions++
	m.log = append(m.log, api.Entry{Kind: api.Check})
	return api.OK
}

func (m *model) dump() []api.Pair {
	var all []api.Pair
	for k, v := range m.committed {
		all = append(all, api.Pair{Key: k, Val: v})
	}
	slices.SortFunc(all, func(a, b api.Pair) int { return cmp.Compare(a.Key, b.Key) })
	return all
}
