package layout

import (
	"bytes"
	"slices"
	"testing"

	"anvil/api"
	"anvil/disk"
)

var stamp = Stamp{Start: 1 << 30, Count: 0xfffefdfc}

func is(v string) api.Cell { return api.Cell{Is: true, Val: v} }

func TestEveryPartHasItsSectors(t *testing.T) {
	used := map[int]string{}
	take := func(at int, who string) {
		if at < 0 || at >= api.Sectors || used[at] != "" {
			t.Errorf("%s at sector %d, which is of %q", who, at, used[at])
		}
		used[at] = who
	}
	for turn := range Copies {
		take(MasterAt(turn), "master")
	}
	for page := range api.Pages {
		for turn := range Copies {
			for half := range halves {
				take(PageAt(page, turn)+half, "page")
			}
		}
	}
	for i := range api.LogSectors {
		take(EntryAt(i+1), "log")
	}
	if len(used) != api.Sectors {
		t.Errorf("%d sectors of %d are used", len(used), api.Sectors)
	}
}

func TestStampsRise(t *testing.T) {
	rising := []Stamp{{}, {0, 1}, {1, 0}, {1, 1}, {1, 256}, {1, 1 << 31}, {2, 0}, {256, 0}, {1<<32 - 1, 1<<32 - 1}}
	for i, a := range rising {
		for j, b := range rising {
			if a.Above(b) != (i > j) {
				t.Errorf("%v above %v: %v", a, b, a.Above(b))
			}
			if (string(a.bytes()) > string(b.bytes())) != (i > j) {
				t.Errorf("the bytes of %v and %v are not in their order", a, b)
			}
		}
		if got := stampOf(a.bytes()); got != a {
			t.Errorf("stamp %v is read as %v", a, got)
		}
	}
}

func TestEntriesAreReadAsWritten(t *testing.T) {
	for _, e := range []api.Entry{
		{},
		{Kind: api.Check},
		{Kind: api.Update, Tx: 120, Prev: 399, Key: "12345678", Old: is("123456789012"), New: is("\x00\xff")},
		{Kind: api.Update, Tx: 1, Key: "\x00", Old: is(""), New: api.Cell{}},
		{Kind: api.Undone, Tx: 3, Prev: 300, Next: 256, Key: "a\x00", New: is("")},
	} {
		s, got, ok := UnpackEntry(PackEntry(stamp, e))
		if s != stamp || got != e || !ok {
			t.Errorf("%+v is read as %+v, %v, %v", e, got, s, ok)
		}
	}
}

func TestMastersAreReadAsWritten(t *testing.T) {
	for _, m := range []Master{{}, {Log: 1, Mode: api.NoSteal}, {Log: 1<<32 - 1, Mode: 255}} {
		s, got, ok := UnpackMaster(PackMaster(stamp, m))
		if s != stamp || got != m || !ok {
			t.Errorf("%+v is read as %+v, %v, %v", m, got, s, ok)
		}
	}
}

func TestPagesAreReadAsWritten(t *testing.T) {
	full := []api.Pair{{Key: "12345678", Val: "123456789012"}, {Key: "\x00"}, {Key: "c", Val: "\x00"}, {Key: "d", Val: "z"}}
	for n := range len(full) + 1 {
		s, got, ok := UnpackPage(PackPage(stamp, full[:n]))
		if s != stamp || !ok || !slices.Equal(got, full[:n]) {
			t.Errorf("%v is read as %v, %v, %v", full[:n], got, s, ok)
		}
	}
}

// torn is a sector of which a write has brought the first bytes only.
func torn(under, over disk.Block, bytes int) disk.Block {
	copy(under[:bytes], over[:bytes])
	return under
}

func TestTornEntriesShow(t *testing.T) {
	older, newer := Stamp{3, 0xffff}, Stamp{4, 0}
	a := PackEntry(older, api.Entry{Kind: api.Update, Tx: 1, Key: "a", New: is("x")})
	b := PackEntry(newer, api.Entry{Kind: api.Update, Tx: 2, Key: "b", New: is("y")})
	for bytes := range api.Sector + 1 {
		mixed := torn(a, b, bytes)
		if _, _, ok := UnpackEntry(mixed); ok != (mixed == a || mixed == b) {
			t.Errorf("torn behind %d bytes: taken for an entry: %v", bytes, ok)
		}
	}
}

func TestTornMastersShow(t *testing.T) {
	a := PackMaster(Stamp{255, 2}, Master{Log: 255, Mode: api.NoSteal})
	b := PackMaster(Stamp{256, 1}, Master{Log: 255, Mode: api.Steal})
	for bytes := range api.Sector + 1 {
		mixed := torn(a, b, bytes)
		if _, _, ok := UnpackMaster(mixed); ok != (mixed == a || mixed == b) {
			t.Errorf("torn behind %d bytes: taken for a master record: %v", bytes, ok)
		}
	}
}

func TestWipedSectorsHoldNothing(t *testing.T) {
	for _, body := range []byte{0, 1, 0xff} {
		b := Wiped()
		for i := stampBytes; i < api.Sector-stampBytes; i++ {
			b[i] = body // it may come of a write that was torn
		}
		_, _, entry := UnpackEntry(b)
		_, _, master := UnpackMaster(b)
		_, _, page := UnpackPage(Copy{b, b})
		if entry || master || page || Torn(b) || StartOf(b) != 0 {
			t.Errorf("wiped, with %d: entry %v, master %v, page %v, torn %v, start %d", body, entry, master, page, Torn(b), StartOf(b))
		}
	}
}

func TestStartOf(t *testing.T) {
	old, b := disk.Block{}, PackEntry(Stamp{0x01020304, 9}, api.Entry{})
	for bytes := range api.Sector + 1 {
		mixed := torn(old, b, bytes)
		want := uint32(0)
		if mixed == b {
			want = 0x01020304
		}
		if got := StartOf(mixed); got != want || Torn(mixed) == (mixed == b || mixed == old) {
			t.Errorf("torn behind %d bytes: start %d, torn %v", bytes, got, Torn(mixed))
		}
	}
}

// A wipe may be torn, and what is written over what was wiped: it always shows.
func TestTornWipesShow(t *testing.T) {
	stamps := []Stamp{{}, {1, 1}, {1, 0xff}, {0xff, 0xffffffff}, {0x100, 1}, {0x1ff, 0xffff}, {1 << 30, 0xff00ff00}, {1 << 31, 7}}
	whole := func(b disk.Block) bool { _, _, ok := unseal(b); return ok }
	for i, older := range stamps {
		for _, newer := range stamps[i+1:] {
			a, b := seal(older, bytes.Repeat([]byte{1}, bodyBytes)), seal(newer, bytes.Repeat([]byte{2}, bodyBytes))
			for tear := range api.Sector + 1 {
				if mixed := torn(Wiped(), b, tear); whole(mixed) && mixed != b {
					t.Errorf("%v over a wiped sector, torn behind %d bytes, is taken for whole", newer, tear)
				}
				once := torn(a, b, tear)
				if !Torn(once) {
					continue
				}
				for again := range api.Sector + 1 {
					if whole(torn(once, Wiped(), again)) {
						t.Errorf("%v over %v, torn behind %d bytes, wiped and torn behind %d, is taken for whole", newer, older, tear, again)
					}
				}
			}
		}
	}
}

func TestTornPagesShow(t *testing.T) {
	a := PackPage(Stamp{3, 7}, []api.Pair{{Key: "a"}, {Key: "i"}, {Key: "q"}})
	b := PackPage(Stamp{3, 8}, []api.Pair{{Key: "y"}})
	for half := range halves {
		for bytes := range api.Sector + 1 {
			mixed := a
			mixed[half] = torn(a[half], b[half], bytes)
			if _, pairs, ok := UnpackPage(mixed); ok != (mixed == a) || !ok && pairs != nil {
				t.Errorf("half %d torn behind %d bytes: taken for a page: %v", half, bytes, ok)
			}
		}
	}
	for half := range halves {
		mixed := a
		mixed[half] = b[half]
		if _, _, ok := UnpackPage(mixed); ok {
			t.Errorf("half %d of one write and the rest of another are taken for a page", half)
		}
	}
}

func TestLengthsThatNobodyWritesAreRefused(t *testing.T) {
	entry := PackEntry(stamp, api.Entry{Key: "a", Old: is("x"), New: is("y")})
	for at, longest := range map[int]byte{6: 8, 15: 13, 28: 13} {
		for length := range 256 {
			b := entry
			b[stampBytes+at] = byte(length)
			if _, _, ok := UnpackEntry(b); ok != (byte(length) <= longest) {
				t.Errorf("an entry with length %d at byte %d: %v", length, at, ok)
			}
		}
	}
	page := PackPage(stamp, []api.Pair{{Key: "a", Val: "x"}})
	for at, longest := range map[int]byte{0: 8, 9: 12, 22: 8, 31: 12} {
		for half := range halves {
			for length := range 256 {
				c := page
				c[half][stampBytes+at] = byte(length)
				if _, _, ok := UnpackPage(c); ok != (byte(length) <= longest) {
					t.Errorf("a page with length %d at byte %d of half %d: %v", length, at, half, ok)
				}
			}
		}
	}
}
