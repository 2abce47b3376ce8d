package anvil

import (
	"bytes"
	"math"
	"slices"
	"testing"

	"anvil/api"
)

const imageBytes = 27776

// keeps are some choices of unsynced writes.
var keeps = []uint64{0, 1<<64 - 1, 1, 2, 4, 3, 0x5555555555555555, 0xaaaaaaaaaaaaaaaa, 1<<10 - 1, ^uint64(1), 1 << 63}

func opened(t *testing.T, mode int, image []byte) *Store {
	t.Helper()
	s, e := Open(mode, image)
	if s == nil || e != api.OK {
		t.Fatalf("P4: Open(%d) of an image = %v, %d", mode, s != nil, e)
	}
	return s
}

func restarts(t *testing.T, s *Store, keep uint64) {
	t.Helper()
	answers(t, "P14: Restart", s.Restart(keep, 0, 0), api.OK)
}

// isAtAStart tells it of a store in which at least one transaction was open. It uses the start up.
func isAtAStart(t *testing.T, s *Store) {
	t.Helper()
	logs(t, s)
	for _, tx := range []int{1, 2, 3, 4} {
		answers(t, "P14: Commit of what was open", s.Commit(tx), api.ErrTx)
		answers(t, "P14: Abort of what was open", s.Abort(tx), api.ErrTx)
		refuses(t, s, tx, "a", api.ErrTx)
	}
	for i := range api.MaxOpen {
		begin(t, s, i+1)
	}
	for range api.MaxActions - api.MaxOpen {
		answers(t, "P14: an action behind a start", s.Checkpoint(), api.OK)
	}
	answers(t, "P9: an action too many", s.Checkpoint(), api.ErrFull)
}

// P3, P4: a store in which nothing was done yet has an image too.
func TestImageOfANewStore(t *testing.T) {
	both(t, func(t *testing.T, s *Store) {
		for _, keep := range keeps {
			for mode := range 2 {
				o := opened(t, mode, s.Image(keep))
				holds(t, o)
				isAtAStart(t, o)
			}
		}
	})
}

// The document's last example.
func TestExampleOfAnImage(t *testing.T) {
	both(t, func(t *testing.T, s *Store) {
		begin(t, s, 1)
		answers(t, "Put", s.Put(1, "a", "x"), api.OK)
		answers(t, "Commit", s.Commit(1), api.OK)
		holds(t, opened(t, api.NoSteal, s.Image(0)), api.Pair{Key: "a", Val: "x"})
	})
	if s, e := Open(0, nil); s != nil || e != api.ErrCorrupt {
		t.Errorf("P4: Open of no bytes = %v, %d", s != nil, e)
	}
}

// P4: the errors, ErrMode ahead of ErrCorrupt.
func TestOpenRefuses(t *testing.T) {
	image := made(t, api.Steal).Image(0)
	for _, mode := range []int{-1, 2, math.MaxInt, math.MinInt} {
		for _, n := range []int{0, 1, imageBytes} {
			if s, e := Open(mode, image[:n]); s != nil || e != api.ErrMode {
				t.Errorf("P4: Open(%d) of %d bytes = %v, %d", mode, n, s != nil, e)
			}
		}
	}
	long := append(slices.Clone(image), make([]byte, imageBytes)...)
	for mode := range 2 {
		for _, n := range []int{0, 1, 63, 64, imageBytes - 64, imageBytes - 1, imageBytes + 1, imageBytes + 64, 2 * imageBytes} {
			if s, e := Open(mode, long[:n]); s != nil || e != api.ErrCorrupt {
				t.Errorf("P4: Open(%d) of %d bytes = %v, %d", mode, n, s != nil, e)
			}
		}
	}
}

// some leaves a store with two keys committed, one of them on the pages already,
// a transaction that was aborted and two that are open; and tells what is committed.
func some(t *testing.T, s *Store) []api.Pair {
	t.Helper()
	begin(t, s, 1)
	puts(t, s, 1, "a", "b", "i")
	answers(t, "Commit", s.Commit(1), api.OK)
	begin(t, s, 2)
	begin(t, s, 3)
	begin(t, s, 4)
	answers(t, "Put", s.Put(2, "a", "not yet"), api.OK)
	answers(t, "Delete", s.Delete(3, "b"), api.OK)
	answers(t, "Checkpoint", s.Checkpoint(), api.OK)
	puts(t, s, 3, "j", "c", "k")
	puts(t, s, 4, "d", "e")
	answers(t, "Delete", s.Delete(2, "i"), api.OK)
	answers(t, "Put", s.Put(2, "i", "never"), api.OK)
	answers(t, "Delete", s.Delete(4, "e"), api.OK)
	answers(t, "Abort", s.Abort(3), api.OK)
	return []api.Pair{{Key: "a", Val: "a"}, {Key: "b", Val: "b"}, {Key: "i", Val: "i"}}
}

// P14, P15: what was committed is there, what was not is not, and the store is at a start.
func TestRestart(t *testing.T) {
	for _, keep := range keeps {
		for _, tear := range []int{0, 1, 63, 64, 65, -1, math.MaxInt, math.MinInt} {
			both(t, func(t *testing.T, s *Store) {
				want := some(t, s)
				answers(t, "P14: Restart", s.Restart(keep, tear, 0), api.OK)
				holds(t, s, want...)
				isAtAStart(t, s)
				answers(t, "P14: Restart", s.Restart(keep, tear, -1), api.OK)
				holds(t, s, want...)
			})
		}
	}
}

// P14: nobody holds a key behind a restart, and there is room for all of a bucket.
func TestRestartLetsGo(t *testing.T) {
	both(t, func(t *testing.T, s *Store) {
		begin(t, s, 1)
		puts(t, s, 1, "a", "i", "q", "y")
		begin(t, s, 2)
		reads(t, s, 2, "b", none)
		restarts(t, s, ^uint64(0))
		begin(t, s, 1)
		reads(t, s, 1, "a", none)
		puts(t, s, 1, "A", "I", "b")
		begin(t, s, 2)
		answers(t, "P7: Put of what is read", s.Put(2, "a", ""), api.ErrLock)
		puts(t, s, 2, "q", "y")
		answers(t, "P7: Put of a fifth", s.Put(2, "i", ""), api.ErrFull)
	})
}

// P15: every choice of the 13 writes that are unsynced behind an abort with Steal.
func TestEveryKeep(t *testing.T) {
	both(t, func(t *testing.T, s *Store) {
		want := some(t, s)
		if !bytes.Equal(s.Image(1<<13-1), s.Image(^uint64(0))) {
			t.Error("more writes are unsynced than are tried")
		}
		for keep := range uint64(1 << 13) {
			holds(t, opened(t, int(keep%2), s.Image(keep)), want...)
		}
	})
}

// leave lets a transaction stay open.
func leave(*Store, int) api.Errno { return api.OK }

// P12, P15: logs as long as they get, with far more than 64 unsynced writes.
func TestLongLogs(t *testing.T) {
	keys := []string{"a", "b", "c", "d", "e", "f", "g", "h", "i", "j", "k"}
	for _, end := range []func(*Store, int) api.Errno{(*Store).Commit, (*Store).Abort, leave} {
		for _, keep := range keeps {
			both(t, func(t *testing.T, s *Store) {
				begin(t, s, 1)
				for i := range api.MaxActions - 1 {
					answers(t, "Put", s.Put(1, keys[i%len(keys)], string(rune('0'+i))), api.OK)
				}
				answers(t, "an end", end(s, 1), api.OK)
				want, _ := s.Dump()
				for mode := range 2 {
					holds(t, opened(t, mode, s.Image(keep)), want...)
				}
				restarts(t, s, keep)
				holds(t, s, want...)
			})
		}
	}
}

// P15: what comes back is in a store that is opened, of either mode, what it is behind Restart.
func TestOpenAndRestartAgree(t *testing.T) {
	both(t, func(t *testing.T, s *Store) {
		for round, keep := range slices.Concat(keeps, keeps) {
			begin(t, s, 1)
			begin(t, s, 2)
			for i, key := range []string{"a", "b", "c", "d", "e", "f", "g", "h", "i"} {
				answers(t, "Put", s.Put(1+(round+i)%2, key, string(rune('A'+round))), api.OK)
				if (i+round)%4 == 0 {
					answers(t, "Checkpoint", s.Checkpoint(), api.OK)
				}
			}
			answers(t, "Commit", s.Commit(1), api.OK)
			want, _ := s.Dump()
			for mode := range 2 {
				o := opened(t, mode, s.Image(keep))
				holds(t, o, want...)
				restarts(t, o, keep)
				holds(t, o, want...)
			}
			restarts(t, s, keep)
			holds(t, s, want...)
		}
	})
}

// P14, P15: a store that comes back very often.
func TestManyRestarts(t *testing.T) {
	both(t, func(t *testing.T, s *Store) {
		var want []api.Pair
		for i := range 700 {
			keep := keeps[i%len(keeps)]
			if i%3 == 0 {
				begin(t, s, 1)
				val := string([]byte{byte(i >> 8), byte(i)})
				answers(t, "Put", s.Put(1, "a", val), api.OK)
				answers(t, "Commit", s.Commit(1), api.OK)
				want = []api.Pair{{Key: "a", Val: val}}
				begin(t, s, 2)
				puts(t, s, 2, "a", "i")
			}
			if i%5 == 0 {
				answers(t, "Checkpoint", s.Checkpoint(), api.OK)
			}
			restarts(t, s, keep)
			holds(t, s, want...)
			logs(t, s)
		}
		holds(t, opened(t, api.Steal, s.Image(0)), want...)
	})
}

// P12: asking for images changes nothing, and what comes out is new.
func TestImageChangesNothing(t *testing.T) {
	both(t, func(t *testing.T, s *Store) {
		want := some(t, s)
		log, _ := s.Log()
		for _, keep := range keeps {
			image := s.Image(keep)
			if len(image) != imageBytes {
				t.Fatalf("P12: an image of %d bytes", len(image))
			}
			kept := slices.Clone(image)
			clear(image[:cap(image)])
			if !bytes.Equal(s.Image(keep), kept) {
				t.Errorf("P12, P2: Image(%x), asked for again, is another", keep)
			}
		}
		holds(t, s, want...)
		logs(t, s, log...)
		reads(t, s, 2, "i", is("never"))
		image := s.Image(0)
		kept := slices.Clone(image)
		answers(t, "Commit", s.Commit(2), api.OK)
		restarts(t, s, 0)
		if !bytes.Equal(image, kept) {
			t.Error("P2: a later call changed an image")
		}
		holds(t, s, api.Pair{Key: "a", Val: "not yet"}, api.Pair{Key: "b", Val: "b"}, api.Pair{Key: "i", Val: "never"})
	})
}

// P12: the bits of keep choose among the unsynced writes: with Steal each Put is one.
func TestImageKeepsWhatItIsToldTo(t *testing.T) {
	s := made(t, api.Steal)
	begin(t, s, 1)
	puts(t, s, 1, "a", "b")
	answers(t, "Put", s.Put(1, "c", "third"), api.OK)
	answers(t, "Put", s.Put(1, "d", "fourth"), api.OK)
	for _, keep := range []uint64{0, 3, 4, 8, 12, ^uint64(0)} {
		image := s.Image(keep)
		third, fourth := bytes.Contains(image, []byte("third")), bytes.Contains(image, []byte("fourth"))
		if third != (keep&4 > 0) || fourth != (keep&8 > 0) {
			t.Errorf("P12: Image(%x) has the third write: %v, the fourth: %v", keep, third, fourth)
		}
	}
}

// P14: the writes that are not kept never happened.
func TestRestartKeepsWhatItIsToldTo(t *testing.T) {
	for _, keep := range []uint64{0, 1, 2, 3, 4, 5, 6, 7, ^uint64(0)} {
		s := made(t, api.Steal)
		begin(t, s, 1)
		for _, val := range []string{"first", "second", "third"} {
			answers(t, "Put", s.Put(1, val[:1], val), api.OK)
		}
		restarts(t, s, keep)
		image := s.Image(^uint64(0))
		for i, val := range []string{"first", "second", "third"} {
			if has := bytes.Contains(image, []byte(val)); has != (keep>>i&1 == 1) {
				t.Errorf("P14: behind Restart(%x) the disk has write %d: %v", keep, i, has)
			}
		}
		holds(t, s)
	}
}

// P2: the bytes handed to Open are the caller's.
func TestOpenKeepsNothing(t *testing.T) {
	both(t, func(t *testing.T, s *Store) {
		want := some(t, s)
		image := s.Image(^uint64(0))
		lent := append(slices.Clone(image), bytes.Repeat([]byte{77}, 1000)...)
		o := opened(t, api.NoSteal, lent[:imageBytes])
		if !bytes.Equal(lent[:imageBytes], image) || !bytes.Equal(lent[imageBytes:], bytes.Repeat([]byte{77}, 1000)) {
			t.Error("P2: what was handed in was written into")
		}
		clear(lent)
		holds(t, o, want...)
		restarts(t, o, 0)
		holds(t, o, want...)
		begin(t, o, 1)
		puts(t, o, 1, "a", "z")
		answers(t, "Commit", o.Commit(1), api.OK)
		holds(t, s, want...)
		holds(t, opened(t, api.Steal, image), want...)
	})
}

// P2: a restart of one store is nothing to another.
func TestRestartsAreApart(t *testing.T) {
	both(t, func(t *testing.T, s *Store) {
		o := made(t, api.Steal)
		begin(t, o, 1)
		puts(t, o, 1, "a")
		want := some(t, s)
		copied := opened(t, api.Steal, s.Image(0))
		begin(t, copied, 1)
		restarts(t, s, 0)
		reads(t, o, 1, "a", is("a"))
		reads(t, copied, 1, "a", is("a"))
		answers(t, "Commit", o.Commit(1), api.OK)
		holds(t, o, api.Pair{Key: "a", Val: "a"})
		holds(t, s, want...)
	})
}

// P11, P15: behind a start the log has the new start's entries alone, however
// many the last start left in its place.
func TestLogBehindAStart(t *testing.T) {
	both(t, func(t *testing.T, s *Store) {
		for _, keep := range keeps {
			some(t, s)
			restarts(t, s, keep)
			begin(t, s, 1)
			answers(t, "Put", s.Put(1, "a", "x"), api.OK)
			answers(t, "Commit", s.Commit(1), api.OK)
			want := []api.Entry{update(1, 0, "a", is("a"), is("x")), committed(1, 1)}
			logs(t, s, want...)
			restarts(t, s, keep)
			logs(t, s)
			holds(t, s, api.Pair{Key: "a", Val: "x"}, api.Pair{Key: "b", Val: "b"}, api.Pair{Key: "i", Val: "i"})
			restarts(t, s, keep)
		}
	})
}
