package way

import (
	"bytes"
	"slices"
	"testing"

	"anvil/api"
	"anvil/disk"
	"anvil/layout"
)

func put(tx int, key string, old, new api.Cell) api.Entry {
	return api.Entry{Kind: api.Update, Tx: tx, Key: key, Old: old, New: new}
}

func undone(tx, next int, key string, new api.Cell) api.Entry {
	return api.Entry{Kind: api.Undone, Tx: tx, Next: next, Key: key, New: new}
}

func ended(kind, tx int) api.Entry { return api.Entry{Kind: kind, Tx: tx} }

// written is a disk with this log and these pages, as start 3 has left it.
func written(mode int, log []api.Entry, pages map[int][]api.Pair) *disk.Disk {
	return writtenBy(3, mode, log, pages)
}

func writtenBy(start uint32, mode int, log []api.Entry, pages map[int][]api.Pair) *disk.Disk {
	d := &disk.Disk{}
	v := &volume{disk: d, start: start}
	v.mark(layout.Master{Log: start, Mode: mode})
	j := journal{volume: v}
	for _, e := range log {
		j.add(e)
	}
	p := newPool(v)
	for n, pairs := range pages {
		p.pages[n] = &page{turn: 1, pairs: pairs}
		p.changed[n] = struct{}{}
	}
	p.flush()
	return d
}

// refused tells whether a disk is taken for one that no store has written.
func refused(d *disk.Disk) (is bool) {
	defer func() {
		_, is = recover().(Foreign)
	}()
	Adopt(api.Steal, d, &disk.Disk{})
	return false
}

func TestTheWayBackFollowsTheLog(t *testing.T) {
	none := api.Cell{}
	onPage := map[int][]api.Pair{1: {{Key: "a", Val: "0"}, {Key: "i", Val: "0"}}}
	for _, c := range []struct {
		name string
		log  []api.Entry
		want string // keys and values, one behind the other
	}{
		{"no log", nil, "a0i0"},
		{"commit", []api.Entry{put(1, "a", is("0"), is("1")), put(1, "i", is("0"), none), ended(api.Commit, 1)}, "a1"},
		{"commit twice", []api.Entry{put(1, "a", is("0"), is("1")), ended(api.Commit, 1), put(2, "a", is("1"), is("2")), ended(api.Commit, 2)}, "a2i0"},
		{"loser", []api.Entry{put(1, "a", is("0"), is("1")), put(1, "a", is("1"), none)}, "a0i0"},
		{"loser behind a commit", []api.Entry{put(1, "a", is("7"), is("1")), ended(api.Commit, 1), put(2, "a", is("1"), is("2"))}, "a1i0"},
		{"loser beside a commit", []api.Entry{put(2, "i", is("0"), is("2")), put(1, "a", is("0"), is("1")), put(2, "q", none, is("3")), ended(api.Commit, 1)}, "a1i0"},
		{"checkpoints", []api.Entry{{Kind: api.Check}, put(1, "a", is("0"), is("1")), {Kind: api.Check}, ended(api.Commit, 1), {Kind: api.Check}}, "a1i0"},
	} {
		for mode := range 2 {
			for as := range 2 {
				d := written(mode, c.log, onPage)
				k := Back(as, d)
				got := ""
				for _, p := range k.Committed() {
					got += p.Key + p.Val
				}
				if got != c.want || len(k.Entries()) != 0 {
					t.Errorf("%s, log of mode %d, store of mode %d: %s and %v, want %s", c.name, mode, as, got, k.Entries(), c.want)
				}
			}
		}
	}
}

// A log may end anywhere in an abort: what is left of it is done by the way back.
func TestTheWayBackEndsAborts(t *testing.T) {
	none := api.Cell{}
	log := []api.Entry{
		put(1, "a", is("0"), is("1")), put(1, "a", is("1"), is("2")), put(1, "b", none, is("3")), put(2, "i", none, is("4")),
		undone(1, 2, "b", none), undone(1, 1, "a", is("1")), undone(1, 0, "a", is("0")), ended(api.End, 1),
		put(3, "a", is("0"), is("5")), ended(api.Commit, 3),
	}
	for length := range len(log) + 1 {
		k := Back(api.Steal, written(api.Steal, log[:length], map[int][]api.Pair{1: {{Key: "a", Val: "0"}}}))
		want := "0"
		if length == len(log) {
			want = "5"
		}
		if got := k.Committed(); !slices.Equal(got, []api.Pair{{Key: "a", Val: want}}) {
			t.Errorf("behind %d entries: %v", length, got)
		}
	}
}

// What a committed transaction did is done from the log, whatever its pages hold;
// what the pages hold of others is theirs.
func TestTheWayBackIsTheSameOnPagesThatWentIt(t *testing.T) {
	log := []api.Entry{put(1, "a", api.Cell{}, is("1")), put(1, "i", is("0"), api.Cell{}), put(2, "q", is("0"), is("2")), ended(api.Commit, 1)}
	want := []api.Pair{{Key: "a", Val: "1"}, {Key: "q", Val: "0"}, {Key: "y", Val: "0"}}
	for _, before := range [][]api.Pair{
		{{Key: "i", Val: "0"}, {Key: "q", Val: "0"}, {Key: "y", Val: "0"}},
		{{Key: "a", Val: "1"}, {Key: "i", Val: "0"}, {Key: "q", Val: "2"}, {Key: "y", Val: "0"}},
		want,
	} {
		d := written(api.Steal, log, map[int][]api.Pair{1: before})
		if got := Back(api.Steal, d).Committed(); !slices.Equal(got, want) {
			t.Errorf("from %v: %v", before, got)
		}
	}
}

// The kind that wrote the log takes back what is not committed, or has nothing
// to take back, whatever the store is that comes of it.
func TestTheWayBackIsThatOfTheLog(t *testing.T) {
	log := []api.Entry{put(1, "a", is("old"), is("new")), {Kind: api.Check}, put(2, "b", api.Cell{}, is("2")), ended(api.Commit, 2)}
	pages := map[int][]api.Pair{1: {{Key: "a", Val: "page"}}}
	for mode, want := range []string{"old", "page"} {
		for as := range 2 {
			if got := Back(as, written(mode, log, pages)).Committed(); got[0].Val != want || len(got) != 2 {
				t.Errorf("log of mode %d, store of mode %d: %v", mode, as, got)
			}
		}
	}
}

func TestTheMasterRecordTellsTheMode(t *testing.T) {
	both(t, func(t *testing.T, k Kind, d *disk.Disk) {
		_, steals := k.(*steal)
		for _, mode := range []int{api.Steal, api.NoSteal, api.NoSteal, api.Steal} {
			v := &volume{disk: d}
			if m := v.find(); (m.Mode == api.Steal) != steals || m.Log != masters(d)[v.turn].Start {
				t.Errorf("the master record is %+v", m)
			}
			Back(mode, d)
			steals = mode == api.Steal
		}
	})
}

// The newer master record stands until another is lasting.
func TestMasterRecordsAreWrittenByTurns(t *testing.T) {
	d := &disk.Disk{}
	New(api.Steal, d)
	for range 5 {
		v := &volume{disk: d}
		v.find()
		Back(api.Steal, d)
		if behind := masters(d); !behind[v.turn].Above(behind[other(v.turn)]) {
			t.Errorf("the way back first wrote over copy %d, the newer one: %v", v.turn, behind)
		}
	}
}

// An entry behind one that was lost is not followed.
func TestALostEntryEndsTheLog(t *testing.T) {
	log := []api.Entry{put(1, "a", api.Cell{}, is("1")), ended(api.Commit, 1), put(2, "b", api.Cell{}, is("2")), ended(api.Commit, 2)}
	for lost := range log {
		d := written(api.NoSteal, log, nil)
		d.Write(layout.EntryAt(lost+1), disk.Block{})
		d.Sync()
		if got := len(Back(api.NoSteal, d).Committed()); got != lost/2 {
			t.Errorf("without entry %d: %d keys", lost+1, got)
		}
	}
}

func TestTheWayBackWritesOverTheOlderCopies(t *testing.T) {
	d := written(api.Steal, []api.Entry{put(1, "a", api.Cell{}, is("1")), ended(api.Commit, 1)}, map[int][]api.Pair{1: nil, 2: nil})
	for range 4 {
		newer := (&pool{volume: &volume{disk: d}}).load(1).turn
		copied := d.Read(layout.PageAt(1, newer))
		ahead := d.Image(0)[layout.PageAt(2, 0)*api.Sector : layout.PageAt(3, 0)*api.Sector]
		k := Back(api.Steal, d)
		if d.Read(layout.PageAt(1, newer)) != copied {
			t.Error("the newer copy of a page was written over")
		}
		if behind := d.Image(0)[layout.PageAt(2, 0)*api.Sector : layout.PageAt(3, 0)*api.Sector]; !bytes.Equal(ahead, behind) {
			t.Error("a page was written that is as it was")
		}
		tx := begin(t, k)
		write(t, k, tx, "a", is("more"))
	}
}

func TestTheWayBackLeavesNothingUnsynced(t *testing.T) {
	both(t, func(t *testing.T, k Kind, d *disk.Disk) {
		for mode := range 2 {
			tx := begin(t, k)
			write(t, k, tx, "a", is("x"))
			d.Fail(^uint64(0), 0)
			k = Back(mode, d)
			if !bytes.Equal(d.Image(0), d.Image(^uint64(0))) {
				t.Error("a start has unsynced writes")
			}
		}
	})
}

func masters(d *disk.Disk) (stamps []layout.Stamp) {
	for turn := range layout.Copies {
		s, _, _ := layout.UnpackMaster(d.Read(layout.MasterAt(turn)))
		stamps = append(stamps, s)
	}
	return stamps
}

// The numbers of starts are above all that stand on the disk.
func TestStartsHaveNewNumbers(t *testing.T) {
	for at := layout.PageAt(0, 0); at < api.Sectors; at++ {
		d := written(api.Steal, nil, nil)
		d.Write(at, layout.PackEntry(layout.Stamp{Start: 7 << 8}, api.Entry{}))
		d.Sync()
		Back(api.Steal, d)
		if s := masters(d); s[0].Start != 7<<8+1 || s[1].Start != 7<<8+1 {
			t.Errorf("sector %d has number %d, the next start %v", at, 7<<8, s)
		}
	}
}

// failsBack tells whether the disk fails on the way back, at this write.
func failsBack(d *disk.Disk, fuse int) (is bool) {
	defer func() {
		_, is = recover().(disk.Failure)
		d.Arm(0)
	}()
	d.Arm(fuse)
	Back(api.Steal, d)
	return false
}

// tornAt is a disk of which this sector is torn, with a great number at one end.
func tornAt(at int) *disk.Disk {
	d := written(api.Steal, nil, nil)
	b := d.Read(at)
	b[at%2*(api.Sector-8)] = 0x77
	d.Write(at, b)
	d.Sync()
	return d
}

// A torn sector is wiped ahead of all other writes, and its numbers are nobody's.
func TestTornSectorsAreWipedFirst(t *testing.T) {
	for at := range api.Sectors {
		if at == layout.MasterAt(1) {
			continue // the only master record that the disk has
		}
		d := tornAt(at)
		ahead := d.Image(0)
		if !failsBack(d, 2) {
			t.Fatal("the way back has one write")
		}
		wiped := layout.Wiped()
		copy(ahead[at*api.Sector:], wiped[:])
		if !bytes.Equal(d.Image(0), ahead) {
			t.Errorf("torn sector %d is not wiped, or not synced, ahead of the second write", at)
		}
		d.Fail(0, 0)
		Back(api.Steal, d)
		if s := masters(d); s[0].Start != 4 || s[1].Start != 4 {
			t.Errorf("behind a torn sector %d starts have the numbers %v", at, s)
		}
	}
}

// Two torn writes of a sector, one over the other, leave like stamps at its ends
// if their bytes happen to fit. Here they would leave an entry of a log that never had it.
func TestTornOverTornShows(t *testing.T) {
	at := layout.EntryAt(1)
	d := written(api.Steal, nil, nil)
	v := volume{disk: d, start: 0x104}
	v.mark(layout.Master{Log: 0x104, Mode: api.Steal})
	const count = 3 // of the first entry of a start: two master records come ahead of it
	tear := func(bytes int, write func()) {
		defer func() {
			recover()
			d.Fail(0, bytes)
		}()
		d.Arm(1)
		write()
	}
	enter := func(start uint32) {
		d.Write(at, layout.PackEntry(layout.Stamp{Start: start, Count: count}, put(1, "a", api.Cell{}, is("never"))))
	}
	tear(api.Sector, func() { enter(5) })
	tear(api.Sector-8+3, func() { enter(0x100) })
	k := Back(api.Steal, d)
	tx := begin(t, k)
	tear(4, func() { write(t, k, tx, "c", is("now")) })
	v.find()
	if got := v.entriesOf(masters(d)[v.turn].Start); len(got) != 0 {
		t.Errorf("torn three times, the sector is taken for %+v", got)
	}
}

// However often writes are torn, each start has the next number at most.
func TestNumbersDoNotLeap(t *testing.T) {
	d := &disk.Disk{}
	New(api.Steal, d)
	for i := range 5000 {
		if failsBack(d, 1+i%3) {
			d.Fail(^uint64(0), []int{1, 2, 3, 57, 58, 59, 8, 30}[i%8])
		}
	}
	if got := lastStart(d); got > 5001 {
		t.Errorf("behind 5000 starts the number is %d", got)
	}
}

func TestEachStartHasTheNextNumber(t *testing.T) {
	d := &disk.Disk{}
	New(api.Steal, d)
	for n := range uint32(300) {
		Back(api.Steal, d)
		for _, s := range masters(d) {
			if s.Start != n+2 {
				t.Fatalf("start %d has the number %d", n+2, s.Start)
			}
		}
	}
}

func TestForeignDisksAreRefused(t *testing.T) {
	full := []api.Pair{{Key: "A"}, {Key: "I"}, {Key: "a"}, {Key: "i"}}
	for name, d := range map[string]*disk.Disk{
		"nothing":        {},
		"mode 2":         written(2, nil, nil),
		"a wrong bucket": written(api.Steal, nil, map[int][]api.Pair{2: {{Key: "a"}}}),
		"a key twice":    written(api.Steal, nil, map[int][]api.Pair{1: {{Key: "a"}, {Key: "a"}}}),
		"falling keys":   written(api.Steal, nil, map[int][]api.Pair{1: {{Key: "i"}, {Key: "a"}}}),
		"a fifth key":    written(api.Steal, []api.Entry{put(1, "q", api.Cell{}, is("")), ended(api.Commit, 1)}, map[int][]api.Pair{1: full}),
		"no key":         written(api.NoSteal, []api.Entry{put(1, "", api.Cell{}, is("")), ended(api.Commit, 1)}, nil),
	} {
		if !refused(d) {
			t.Errorf("a disk with %s is taken for a store's", name)
		}
	}
	if refused(written(api.Steal, nil, map[int][]api.Pair{1: full})) {
		t.Error("a disk with a full page is refused")
	}
}

// Numbers that point nowhere, and kinds that there are not, do no harm.
func TestStrangeEntries(t *testing.T) {
	strange := []api.Entry{
		{Kind: 0, Tx: 1, Key: "a", New: is("x")}, {Kind: 255, Tx: 255, Prev: 65535, Next: 65535, Key: "a", New: is("x")},
		undone(1, 65535, "a", is("")), put(1, "a", is("0"), is("1")), undone(1, 65535, "a", is("")),
		ended(api.End, 9), ended(api.Commit, 0), {Kind: api.Check, Tx: 1, Key: "a"},
	}
	for mode := range 2 {
		if refused(written(mode, strange, nil)) {
			t.Errorf("mode %d: refused", mode)
		}
		if got := Back(api.Steal, written(mode, strange, nil)).Committed(); len(got) > 1 {
			t.Errorf("mode %d: %v", mode, got)
		}
	}
}

// Whatever numbers stand on a disk, a store that is made of it begins with 1, and
// so does one that is made of its own.
func TestAdoptBringsNoNumbersAlong(t *testing.T) {
	log := []api.Entry{put(1, "a", is("0"), is("1")), ended(api.Commit, 1), put(2, "b", api.Cell{}, is("never"))}
	want := []api.Pair{{Key: "a", Val: "1"}, {Key: "i", Val: "0"}}
	for _, start := range []uint32{0, 1, 2, 255, 1 << 30, 1<<31 - 1, 1 << 31, 1<<31 + 1, 0xff << 24, 1<<32 - 2, 1<<32 - 1} {
		for mode := range 2 {
			d := writtenBy(start, mode, log, map[int][]api.Pair{1: {{Key: "a", Val: "0"}, {Key: "i", Val: "0"}}})
			d.Sync()
			ahead := d.Image(0)
			for as := range 2 {
				to := &disk.Disk{}
				k := Adopt(as, d, to)
				if got := k.Committed(); !slices.Equal(got, want) || len(k.Entries()) != 0 {
					t.Errorf("of start %d come %v and %v", start, got, k.Entries())
				}
				if lastStart(to) != 1 || lastStart(lasting(to)) != 1 {
					t.Errorf("behind start %d stand numbers up to %d", start, lastStart(to))
				}
				if got := Adopt(as, to, &disk.Disk{}).Committed(); !slices.Equal(got, want) {
					t.Errorf("of the disk of a store of that comes %v", got)
				}
			}
			if !bytes.Equal(d.Image(^uint64(0)), ahead) {
				t.Error("the disk of which a store was made is another now")
			}
		}
	}
}

// What is left of other logs, torn or lost does not come along.
func TestAdoptBringsWhatIsCommittedAlone(t *testing.T) {
	has := []api.Pair{{Key: "a", Val: "0"}, {Key: "i", Val: "0"}}
	clean := &disk.Disk{}
	Adopt(api.Steal, written(api.Steal, nil, map[int][]api.Pair{1: has}), clean)
	for at := layout.PageAt(2, 0); at < api.Sectors; at++ {
		for _, b := range []disk.Block{layout.PackEntry(layout.Stamp{Start: 7, Count: 1}, put(1, "c", api.Cell{}, is("never"))), {9}, layout.Wiped()} {
			d, to := written(api.Steal, nil, map[int][]api.Pair{1: has}), &disk.Disk{}
			d.Write(at, b)
			Adopt(api.Steal, d, to)
			if !bytes.Equal(to.Image(0), clean.Image(0)) {
				t.Errorf("sector %d leaves something on the disk of a store that was made of it", at)
			}
		}
	}
}
