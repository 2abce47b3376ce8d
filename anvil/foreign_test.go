package anvil

import (
	"bytes"
	"cmp"
	"encoding/binary"
	"math/rand"
	"slices"
	"testing"

	"anvil/api"
	"anvil/disk"
	"anvil/layout"
)

// adopted tells the model of a store on bytes that no store has written, or nil
// if Open refused them.
func adopted(t *testing.T, mode int, image []byte) (*Store, *model) {
	t.Helper()
	s, e := Open(mode, image)
	if s == nil && e == api.ErrCorrupt {
		return nil, nil
	}
	if s == nil || e != api.OK {
		t.Fatalf("P4: Open = %v, %d", s != nil, e)
	}
	m := newModel(mode)
	pairs, _ := s.Dump()
	of := map[int]int{}
	for _, p := range pairs {
		m.committed[p.Key] = p.Val
		of[bucketOf(p.Key)]++
		if p.Key == "" || len(p.Key) > api.MaxKey || len(p.Val) > api.MaxValue || of[bucketOf(p.Key)] > api.Slots {
			t.Fatalf("P4: a store with %q", pairs)
		}
	}
	sameAs(t, "Open", s, m)
	reopens(t, s, pairs)
	return s, m
}

// reopens opens the images of a store: on whatever bytes it was opened itself,
// they are those of a store.
func reopens(t *testing.T, s *Store, want []api.Pair) {
	t.Helper()
	for mode := range 2 {
		for _, keep := range []uint64{0, ^uint64(0)} {
			holds(t, opened(t, mode, s.Image(keep)), want...)
		}
	}
}

// lived tells images of one store from some moments of its life.
func lived(t *testing.T, r *rand.Rand, mode int) [][]byte {
	s, m := made(t, mode), newModel(mode)
	var images [][]byte
	for range 4 {
		s = someLife(t, r, s, m, 20+r.Intn(60))
		images = append(images, s.Image(someKeep(r)))
		answers(t, "Restart", s.Restart(someKeep(r), 0, 1), api.ErrCrash)
		images = append(images, torn(t, s, someKeep(r), someTear(r)))
		s = backFromDead(t, r, s, m, [][]api.Pair{m.dump()})
	}
	return images
}

// spoilt tells bytes that are not quite an image.
func spoilt(r *rand.Rand, images [][]byte) []byte {
	image := bytes.Clone(images[r.Intn(len(images))])
	from := images[r.Intn(len(images))]
	used := 34 + 20 // sectors that a short life may have written
	for range 1 + r.Intn(12) {
		at, to := r.Intn(used)*api.Sector, r.Intn(used)*api.Sector
		switch r.Intn(5) {
		case 0: // a sector of another moment
			copy(image[at:at+api.Sector], from[at:])
		case 1: // part of one
			copy(image[at:at+r.Intn(api.Sector)], from[at:])
		case 2: // a sector in another's place
			copy(image[at:at+api.Sector], from[to:])
		case 3: // some other byte, ahead of the stamp at the end
			image[at+r.Intn(api.Sector-8)] = byte(r.Intn(256))
		case 4: // a byte a little greater
			image[at+r.Intn(api.Sector)]++
		}
	}
	return image
}

// P1, P4: Open of bytes that no store has written, and that what it answers is a
// store as any other.
func TestSpoiltImages(t *testing.T) {
	stores, refused := 0, 0
	seeds(t, 100, func(t *testing.T, r *rand.Rand, mode int) {
		images := lived(t, r, mode)
		for range 20 {
			s, m := adopted(t, r.Intn(2), spoilt(r, images))
			if s == nil {
				refused++
				continue
			}
			stores++
			someLife(t, r, s, m, 40)
		}
	})
	if stores == 0 || refused == 0 {
		t.Errorf("%d were opened, %d refused: the test tries too little", stores, refused)
	}
}

// raised is an image with all numbers of starts raised by this, as those of a
// store are that came back as often.
func raised(image []byte, by uint32) []byte {
	image = bytes.Clone(image)
	raise := func(at int) {
		b := image[at : at+4]
		binary.BigEndian.PutUint32(b, binary.BigEndian.Uint32(b)+by)
	}
	for at := range api.Sectors {
		from := at * api.Sector
		if bytes.Equal(image[from:from+api.Sector], make([]byte, api.Sector)) {
			continue
		}
		raise(from)
		raise(from + api.Sector - 8)
		if at < layout.Copies {
			raise(from + 8) // a master record has the number of the log's start too
		}
	}
	return image
}

// P4: however great the numbers are that stand on a disk, the store that is
// opened on it may come back, and its images are opened: they do not run out.
func TestGreatNumbersDoNotRunOut(t *testing.T) {
	for _, by := range []uint32{0, 1, 254, 1 << 30, 1<<31 - 3, 1<<31 - 2, 1<<31 - 1, 1 << 31, 3 << 30, 0xff<<24 - 2, 1<<32 - 5, 1<<32 - 3} {
		both(t, func(t *testing.T, s *Store) {
			some(t, s)
			restarts(t, s, ^uint64(0))
			want := some(t, s)
			for round := range 6 {
				o := opened(t, round%2, raised(s.Image(keeps[round]), by))
				holds(t, o, want...)
				reopens(t, o, want)
				restarts(t, o, 0)
				holds(t, o, want...)
				reopens(t, o, want)
				answers(t, "Restart", o.Restart(0, 0, 2), api.ErrCrash)
				reopens(t, o, want)
				answers(t, "Restart", o.Restart(0, 9, 0), api.OK)
				goesOn(t, o, want)
			}
		})
	}
}

func oneOfThese[T any](r *rand.Rand, these ...T) T { return these[r.Intn(len(these))] }

func someCell(r *rand.Rand) api.Cell {
	return oneOfThese(r, api.Cell{}, is(""), is("new"), is("123456789012"))
}

// forgedPage tells keys, most often such as page n may have.
func forgedPage(r *rand.Rand, n int) []api.Pair {
	var pairs []api.Pair
	for range r.Intn(api.Slots + 1) {
		key := string([]byte{byte(n + 8*r.Intn(8))})
		if r.Intn(80) == 0 {
			key = oneOfThese(r, "", "a", "12345678", "\xff")
		}
		pairs = append(pairs, api.Pair{Key: key, Val: someCell(r).Val})
	}
	if r.Intn(30) > 0 {
		slices.SortFunc(pairs, func(a, b api.Pair) int { return cmp.Compare(a.Key, b.Key) })
		pairs = slices.CompactFunc(pairs, func(a, b api.Pair) bool { return a.Key == b.Key })
	}
	return pairs
}

func forgedEntry(r *rand.Rand) api.Entry {
	return api.Entry{
		Kind: oneOfThese(r, 0, api.Update, api.Update, api.Undone, api.Commit, api.End, api.Check, 6, 255),
		Tx:   oneOfThese(r, 0, 1, 2, 3, 255), Prev: oneOfThese(r, 0, 1, 2, 399, 400, 65535), Next: oneOfThese(r, 0, 1, 65535),
		Key: oneOfThese(r, "a", "i", "q", "\x00", "b", "12345678"), Old: someCell(r), New: someCell(r),
	}
}

// forged tells bytes of which each sector is as a store writes them, but no store
// has written them all.
func forged(r *rand.Rand) []byte {
	d := &disk.Disk{}
	start := oneOfThese[uint32](r, 0, 1, 7, 1<<31, 1<<32-2, 1<<32-1)
	stamp := func() layout.Stamp {
		return layout.Stamp{Start: start - uint32(r.Intn(8)/7), Count: uint32(r.Intn(3))}
	}
	for turn := range layout.Copies {
		d.Write(layout.MasterAt(turn), layout.PackMaster(stamp(), layout.Master{Log: stamp().Start, Mode: oneOfThese(r, 0, 0, 0, 1, 1, 1, 2)}))
		for n := range api.Pages {
			for i, half := range layout.PackPage(stamp(), forgedPage(r, n)) {
				d.Write(layout.PageAt(n, turn)+i, half)
			}
		}
	}
	for i := range r.Intn(2) * r.Intn(api.LogSectors+1) {
		d.Write(layout.EntryAt(i+1), layout.PackEntry(stamp(), forgedEntry(r)))
	}
	d.Sync()
	return d.Image(0)
}

// P1, P4: bytes that say what no store would say.
func TestForgedImages(t *testing.T) {
	stores, refused := 0, 0
	seeds(t, 100, func(t *testing.T, r *rand.Rand, mode int) {
		for range 20 {
			if s, m := adopted(t, mode, forged(r)); s != nil {
				stores++
				someLife(t, r, s, m, 30)
			} else {
				refused++
			}
		}
	})
	if stores < 100 || refused < 100 {
		t.Errorf("%d were opened, %d refused: the test tries too little", stores, refused)
	}
}

// P1, P4: bytes that are nothing at all.
func TestBytesOfNobody(t *testing.T) {
	r := rand.New(rand.NewSource(1))
	for mode := range 2 {
		for with := range 256 {
			adopted(t, mode, bytes.Repeat([]byte{byte(with)}, imageBytes))
		}
		for range 50 {
			image := make([]byte, imageBytes)
			for i := range image {
				image[i] = byte(r.Intn(256))
			}
			adopted(t, mode, image)
		}
	}
}
