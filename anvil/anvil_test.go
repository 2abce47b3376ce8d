package anvil

import (
	"math"
	"slices"
	"strings"
	"testing"
	"unsafe"

	"anvil/api"
)

var none = api.Cell{}

func is(v string) api.Cell { return api.Cell{Is: true, Val: v} }

// both runs a test on a new store of each mode.
func both(t *testing.T, f func(t *testing.T, s *Store)) {
	for mode, name := range []string{"Steal", "NoSteal"} {
		t.Run(name, func(t *testing.T) { f(t, made(t, mode)) })
	}
}

func made(t *testing.T, mode int) *Store {
	t.Helper()
	s, e := New(mode)
	if s == nil || e != api.OK {
		t.Fatalf("P3: New(%d) = %v, %d", mode, s, e)
	}
	return s
}

func begin(t *testing.T, s *Store, want int) {
	t.Helper()
	if n, e := s.Begin(); n != want || e != api.OK {
		t.Fatalf("P6: Begin = %d, %d, want %d", n, e, want)
	}
}

func answers(t *testing.T, what string, got, want api.Errno) {
	t.Helper()
	if got != want {
		t.Fatalf("%s = %d, want %d", what, got, want)
	}
}

func reads(t *testing.T, s *Store, tx int, key string, want api.Cell) {
	t.Helper()
	if c, e := s.Get(tx, key); c != want || e != api.OK {
		t.Fatalf("P7: Get(%d, %q) = %+v, %d, want %+v", tx, key, c, e, want)
	}
}

func refuses(t *testing.T, s *Store, tx int, key string, want api.Errno) {
	t.Helper()
	if c, e := s.Get(tx, key); c != none || e != want {
		t.Fatalf("P7: Get(%d, %q) = %+v, %d, want %d", tx, key, c, e, want)
	}
}

func puts(t *testing.T, s *Store, tx int, keys ...string) {
	t.Helper()
	for _, key := range keys {
		answers(t, "Put of "+key, s.Put(tx, key, key), api.OK)
	}
}

func holds(t *testing.T, s *Store, want ...api.Pair) {
	t.Helper()
	if got, e := s.Dump(); e != api.OK || !slices.Equal(got, want) {
		t.Fatalf("P10: Dump = %v, %d, want %v", got, e, want)
	}
}

func logs(t *testing.T, s *Store, want ...api.Entry) {
	t.Helper()
	if got, e := s.Log(); e != api.OK || !slices.Equal(got, want) {
		t.Fatalf("P11: Log = %+v, %d, want %+v", got, e, want)
	}
}

func update(tx, prev int, key string, old, new api.Cell) api.Entry {
	return api.Entry{Kind: api.Update, Tx: tx, Prev: prev, Key: key, Old: old, New: new}
}

func undone(tx, prev, next int, key string, new api.Cell) api.Entry {
	return api.Entry{Kind: api.Undone, Tx: tx, Prev: prev, Next: next, Key: key, New: new}
}

func committed(tx, prev int) api.Entry { return api.Entry{Kind: api.Commit, Tx: tx, Prev: prev} }

// P3.
func TestNewOfEveryMode(t *testing.T) {
	for _, mode := range []int{-1, 2, 3, math.MaxInt, math.MinInt} {
		if s, e := New(mode); s != nil || e != api.ErrMode {
			t.Errorf("P3: New(%d) = %v, %d", mode, s, e)
		}
	}
	both(t, func(t *testing.T, s *Store) {
		holds(t, s)
		logs(t, s)
	})
}

// The document's first example.
func TestExampleOfTwoTransactions(t *testing.T) {
	both(t, func(t *testing.T, s *Store) {
		begin(t, s, 1)
		answers(t, "Put", s.Put(1, "a", "x"), api.OK)
		reads(t, s, 1, "a", is("x"))
		begin(t, s, 2)
		refuses(t, s, 2, "a", api.ErrLock)
		holds(t, s)
		answers(t, "Commit", s.Commit(1), api.OK)
		holds(t, s, api.Pair{Key: "a", Val: "x"})
		reads(t, s, 2, "a", is("x"))
		answers(t, "Put of an ended one", s.Put(1, "b", ""), api.ErrTx)
		logs(t, s, update(1, 0, "a", none, is("x")), committed(1, 1))
	})
}

func threeWrites(t *testing.T, s *Store) {
	t.Helper()
	begin(t, s, 1)
	answers(t, "Put", s.Put(1, "a", "x"), api.OK)
	answers(t, "Put", s.Put(1, "a", "y"), api.OK)
	answers(t, "Delete", s.Delete(1, "b"), api.OK)
}

// The document's second example.
func TestExampleOfLogs(t *testing.T) {
	updates := []api.Entry{update(1, 0, "a", none, is("x")), update(1, 1, "a", is("x"), is("y")), update(1, 2, "b", none, none)}

	s := made(t, api.Steal)
	threeWrites(t, s)
	logs(t, s, updates...)
	answers(t, "Abort", s.Abort(1), api.OK)
	logs(t, s, append(updates, undone(1, 3, 2, "b", none), undone(1, 4, 1, "a", is("x")), undone(1, 5, 0, "a", none), api.Entry{Kind: api.End, Tx: 1, Prev: 6})...)

	s = made(t, api.NoSteal)
	threeWrites(t, s)
	answers(t, "Abort", s.Abort(1), api.OK)
	logs(t, s)

	s = made(t, api.NoSteal)
	threeWrites(t, s)
	logs(t, s)
	answers(t, "Commit", s.Commit(1), api.OK)
	logs(t, s, update(1, 0, "a", none, is("y")), update(1, 1, "b", none, none), committed(1, 2))
}

// P7, and the document's third example.
func TestRoomOfABucket(t *testing.T) {
	both(t, func(t *testing.T, s *Store) {
		begin(t, s, 1)
		puts(t, s, 1, "a", "i", "q", "y")
		answers(t, "Put of a fifth", s.Put(1, "A", ""), api.ErrFull)
		answers(t, "Commit", s.Commit(1), api.OK)
		begin(t, s, 2)
		answers(t, "Put of a fifth", s.Put(2, "A", ""), api.ErrFull)
		answers(t, "Delete of a fifth", s.Delete(2, "A"), api.ErrFull)
		answers(t, "Delete", s.Delete(2, "a"), api.OK)
		answers(t, "Put of a fifth behind Delete", s.Put(2, "A", ""), api.ErrFull)
		answers(t, "Put of another bucket", s.Put(2, "b", ""), api.OK)
		answers(t, "Commit", s.Commit(2), api.OK)
		begin(t, s, 3)
		begin(t, s, 4)
		puts(t, s, 3, "A")
		answers(t, "Put beside another's", s.Put(4, "a", ""), api.ErrFull)
		answers(t, "Put of one of the four", s.Put(4, "i", ""), api.OK)
		answers(t, "Abort", s.Abort(3), api.OK)
		puts(t, s, 4, "a")
	})
}

// P7: a refused write neither holds the key nor counts.
func TestRefusedWritesHoldNothing(t *testing.T) {
	both(t, func(t *testing.T, s *Store) {
		begin(t, s, 1)
		begin(t, s, 2)
		answers(t, "Put", s.Put(1, "a", strings.Repeat("x", 13)), api.ErrValue)
		puts(t, s, 2, "a", "i", "q", "y")
		answers(t, "Put", s.Put(1, "A", ""), api.ErrFull)
		answers(t, "Put", s.Put(1, "a", ""), api.ErrLock)
		refuses(t, s, 1, "a", api.ErrLock)
		answers(t, "Abort", s.Abort(2), api.OK)
		begin(t, s, 3)
		puts(t, s, 3, "a", "A")
	})
}

// P7: the errors in their order, each ahead of all that come behind it.
func TestOrderOfErrors(t *testing.T) {
	both(t, func(t *testing.T, s *Store) {
		long, wide := "123456789", strings.Repeat("v", 13)
		begin(t, s, 1)
		begin(t, s, 2)
		puts(t, s, 1, "a", "i", "q", "y")
		for _, tx := range []int{0, -1, 3, 99, math.MaxInt, math.MinInt} {
			refuses(t, s, tx, "", api.ErrTx)
			answers(t, "Put", s.Put(tx, long, wide), api.ErrTx)
			answers(t, "Delete", s.Delete(tx, ""), api.ErrTx)
			answers(t, "Commit", s.Commit(tx), api.ErrTx)
			answers(t, "Abort", s.Abort(tx), api.ErrTx)
		}
		for _, key := range []string{"", long, strings.Repeat("k", 1<<16)} {
			refuses(t, s, 2, key, api.ErrKey)
			answers(t, "Put", s.Put(2, key, wide), api.ErrKey)
			answers(t, "Delete", s.Delete(2, key), api.ErrKey)
		}
		answers(t, "Put: value ahead of lock", s.Put(2, "a", wide), api.ErrValue)
		answers(t, "Put: value ahead of room", s.Put(2, "A", wide), api.ErrValue)
		for range api.MaxActions - 6 {
			answers(t, "Checkpoint", s.Checkpoint(), api.OK)
		}
		answers(t, "Put: lock ahead of full", s.Put(2, "a", ""), api.ErrLock)
		answers(t, "Delete: lock ahead of full", s.Delete(2, "a"), api.ErrLock)
		answers(t, "Put", s.Put(2, "b", ""), api.ErrFull)
		answers(t, "Put: value ahead of full", s.Put(2, "b", wide), api.ErrValue)
		reads(t, s, 1, "a", is("a"))
	})
}

// P6: at most four are open; ErrMany stands ahead of ErrFull.
func TestBegin(t *testing.T) {
	both(t, func(t *testing.T, s *Store) {
		for i := range api.MaxOpen {
			begin(t, s, i+1)
		}
		for range api.MaxActions - api.MaxOpen {
			if n, e := s.Begin(); n != 0 || e != api.ErrMany {
				t.Fatalf("P6: Begin of a fifth = %d, %d", n, e)
			}
			answers(t, "Checkpoint", s.Checkpoint(), api.OK)
		}
		if n, e := s.Begin(); n != 0 || e != api.ErrMany {
			t.Fatalf("P6: Begin where both apply = %d, %d", n, e)
		}
		answers(t, "Abort", s.Abort(2), api.OK)
		if n, e := s.Begin(); n != 0 || e != api.ErrFull {
			t.Fatalf("P6: Begin behind MaxActions = %d, %d", n, e)
		}
		answers(t, "Checkpoint", s.Checkpoint(), api.ErrFull)
		answers(t, "Commit", s.Commit(1), api.OK)
	})
}

// P6: transactions that ended do not give their numbers back.
func TestBeginCountsOn(t *testing.T) {
	both(t, func(t *testing.T, s *Store) {
		for i := range api.MaxActions {
			begin(t, s, i+1)
			if i%2 == 0 {
				answers(t, "Commit", s.Commit(i+1), api.OK)
			} else {
				answers(t, "Abort", s.Abort(i+1), api.OK)
			}
		}
		if n, e := s.Begin(); n != 0 || e != api.ErrFull {
			t.Fatalf("P6: Begin behind MaxActions = %d, %d", n, e)
		}
		logs(t, s)
	})
}

// P7: what is held as read bars writes of others, what is held as written bars all.
func TestHolds(t *testing.T) {
	both(t, func(t *testing.T, s *Store) {
		begin(t, s, 1)
		begin(t, s, 2)
		reads(t, s, 1, "a", none)
		reads(t, s, 2, "a", none)
		answers(t, "Put", s.Put(1, "a", ""), api.ErrLock)
		answers(t, "Delete", s.Delete(2, "a"), api.ErrLock)
		answers(t, "Commit", s.Commit(2), api.OK)
		answers(t, "Delete", s.Delete(1, "a"), api.OK)
		reads(t, s, 1, "a", none)
		begin(t, s, 3)
		refuses(t, s, 3, "a", api.ErrLock)
		answers(t, "Put", s.Put(3, "a", ""), api.ErrLock)
		answers(t, "Abort", s.Abort(1), api.OK)
		puts(t, s, 3, "a")
	})
}

// P7, P10: keys and values of any bytes and of every length.
func TestKeysAndValuesOfAllLengths(t *testing.T) {
	both(t, func(t *testing.T, s *Store) {
		begin(t, s, 1)
		want := []api.Pair{}
		for n := range api.MaxValue + 1 {
			key := strings.Repeat("\x00", n%8) + string([]byte{byte(n * 19)})
			val := strings.Repeat("\xff", n)
			answers(t, "Put", s.Put(1, key, val), api.OK)
			reads(t, s, 1, key, is(val))
			want = append(want, api.Pair{Key: key, Val: val})
		}
		slices.SortFunc(want, func(a, b api.Pair) int { return strings.Compare(a.Key, b.Key) })
		answers(t, "Commit", s.Commit(1), api.OK)
		holds(t, s, want...)
		answers(t, "Checkpoint", s.Checkpoint(), api.OK)
		holds(t, s, want...)
		begin(t, s, 2)
		for _, p := range want {
			reads(t, s, 2, p.Key, is(p.Val))
		}
	})
}

// P8: an abort leaves nothing, a commit all, of puts and deletes alike.
func TestEnds(t *testing.T) {
	both(t, func(t *testing.T, s *Store) {
		begin(t, s, 1)
		puts(t, s, 1, "a", "b", "c")
		answers(t, "Commit", s.Commit(1), api.OK)
		abc := []api.Pair{{Key: "a", Val: "a"}, {Key: "b", Val: "b"}, {Key: "c", Val: "c"}}
		begin(t, s, 2)
		answers(t, "Put", s.Put(2, "a", "new"), api.OK)
		answers(t, "Delete", s.Delete(2, "b"), api.OK)
		answers(t, "Put", s.Put(2, "b", "again"), api.OK)
		answers(t, "Delete", s.Delete(2, "c"), api.OK)
		puts(t, s, 2, "d")
		holds(t, s, abc...)
		answers(t, "Abort", s.Abort(2), api.OK)
		holds(t, s, abc...)
		answers(t, "Abort again", s.Abort(2), api.ErrTx)
		answers(t, "Commit of an aborted one", s.Commit(2), api.ErrTx)
		begin(t, s, 3)
		reads(t, s, 3, "b", is("b"))
		reads(t, s, 3, "d", none)
		answers(t, "Delete", s.Delete(3, "a"), api.OK)
		answers(t, "Put", s.Put(3, "b", ""), api.OK)
		answers(t, "Commit", s.Commit(3), api.OK)
		holds(t, s, api.Pair{Key: "b"}, api.Pair{Key: "c", Val: "c"})
	})
}

// P9: a checkpoint ahead of every call changes nothing but the log.
func TestCheckpointChangesTheLogAlone(t *testing.T) {
	both(t, func(t *testing.T, s *Store) {
		check := func() { answers(t, "Checkpoint", s.Checkpoint(), api.OK) }
		begin(t, s, 1)
		puts(t, s, 1, "a", "b")
		check()
		reads(t, s, 1, "a", is("a"))
		holds(t, s)
		answers(t, "Commit", s.Commit(1), api.OK)
		check()
		begin(t, s, 2)
		answers(t, "Delete", s.Delete(2, "a"), api.OK)
		answers(t, "Put", s.Put(2, "b", "2"), api.OK)
		check()
		begin(t, s, 3)
		refuses(t, s, 3, "a", api.ErrLock)
		reads(t, s, 2, "a", none)
		holds(t, s, api.Pair{Key: "a", Val: "a"}, api.Pair{Key: "b", Val: "b"})
		answers(t, "Abort", s.Abort(2), api.OK)
		check()
		holds(t, s, api.Pair{Key: "a", Val: "a"}, api.Pair{Key: "b", Val: "b"})
		got, _ := s.Log()
		checks := 0
		for _, e := range got {
			if e == (api.Entry{Kind: api.Check}) {
				checks++
			}
		}
		if checks != 4 {
			t.Errorf("P11: the log has %d checkpoints of 4: %+v", checks, got)
		}
	})
}

// P2: the bytes behind a string that was handed in are the caller's.
func TestNothingHandedInIsKept(t *testing.T) {
	both(t, func(t *testing.T, s *Store) {
		begin(t, s, 1)
		key, val := []byte("key"), []byte("val")
		lend := func(b []byte) string { return unsafe.String(&b[0], len(b)) }
		other := []byte("other")
		reads(t, s, 1, lend(other), none)
		copy(other, "zzzzz")
		answers(t, "Put", s.Put(1, lend(key), lend(val)), api.OK)
		copy(key, "xxx")
		copy(val, "yyy")
		reads(t, s, 1, "key", is("val"))
		begin(t, s, 2)
		refuses(t, s, 2, "key", api.ErrLock)
		reads(t, s, 2, "xxx", none)
		answers(t, "Put of what another has read", s.Put(2, "other", ""), api.ErrLock)
		answers(t, "Commit", s.Commit(1), api.OK)
		holds(t, s, api.Pair{Key: "key", Val: "val"})
		if got, _ := s.Log(); got[0].Key != "key" || got[0].New != is("val") {
			t.Errorf("P2: Log = %+v", got)
		}
	})
}

// P2: lists that came out are their owner's, spare room and all.
func TestListsThatComeOutAreNew(t *testing.T) {
	both(t, func(t *testing.T, s *Store) {
		begin(t, s, 1)
		puts(t, s, 1, "a", "b")
		answers(t, "Commit", s.Commit(1), api.OK)
		dump, _ := s.Dump()
		log, _ := s.Log()
		keptDump, keptLog := slices.Clone(dump), slices.Clone(log)
		begin(t, s, 2)
		answers(t, "Put", s.Put(2, "a", "other"), api.OK)
		answers(t, "Delete", s.Delete(2, "b"), api.OK)
		answers(t, "Commit", s.Commit(2), api.OK)
		if !slices.Equal(dump, keptDump) || !slices.Equal(log, keptLog) {
			t.Error("P2: a later call changed what came out")
		}
		want, _ := s.Log()
		wantLog := slices.Clone(want)
		latest, _ := s.Dump()
		clear(latest[:cap(latest)])
		clear(want[:cap(want)])
		holds(t, s, api.Pair{Key: "a", Val: "other"})
		logs(t, s, wantLog...)
	})
}

// P2: stores know nothing of one another.
func TestStoresAreApart(t *testing.T) {
	one, two := made(t, api.Steal), made(t, api.NoSteal)
	three := made(t, api.Steal)
	begin(t, one, 1)
	puts(t, one, 1, "a")
	begin(t, two, 1)
	reads(t, two, 1, "a", none)
	answers(t, "Put", two.Put(1, "a", "two"), api.OK)
	answers(t, "Commit", two.Commit(1), api.OK)
	answers(t, "Checkpoint", one.Checkpoint(), api.OK)
	answers(t, "Abort", one.Abort(1), api.OK)
	holds(t, one)
	holds(t, two, api.Pair{Key: "a", Val: "two"})
	holds(t, three)
	logs(t, three)
	begin(t, three, 1)
}
