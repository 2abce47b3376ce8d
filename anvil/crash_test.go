package anvil

import (
	"bytes"
	"math"
	"slices"
	"strings"
	"testing"

	"anvil/api"
)

// dies has a call fail that is about to write.
func dies(t *testing.T, what string, s *Store, call func() api.Errno) {
	t.Helper()
	s.Arm(1)
	answers(t, "P14: "+what+" with the next write armed", call(), api.ErrCrash)
	isDead(t, s)
}

// isDead asks each call for its answer, with numbers and keys that are right and wrong.
func isDead(t *testing.T, s *Store) {
	t.Helper()
	ahead := s.Image(^uint64(0))
	if n, e := s.Begin(); n != 0 || e != api.ErrDead {
		t.Fatalf("P5: Begin of a dead store = %d, %d", n, e)
	}
	for _, tx := range []int{1, 2, 0, -1, math.MaxInt, math.MinInt} {
		for _, key := range []string{"a", "", "123456789"} {
			refuses(t, s, tx, key, api.ErrDead)
			answers(t, "P5: Put", s.Put(tx, key, "x"), api.ErrDead)
			answers(t, "P5: Put", s.Put(tx, key, strings.Repeat("v", 13)), api.ErrDead)
			answers(t, "P5: Delete", s.Delete(tx, key), api.ErrDead)
		}
		answers(t, "P5: Commit", s.Commit(tx), api.ErrDead)
		answers(t, "P5: Abort", s.Abort(tx), api.ErrDead)
	}
	answers(t, "P5: Checkpoint", s.Checkpoint(), api.ErrDead)
	if l, e := s.Dump(); l != nil || e != api.ErrDead {
		t.Fatalf("P5: Dump of a dead store = %v, %d", l, e)
	}
	if l, e := s.Log(); l != nil || e != api.ErrDead {
		t.Fatalf("P5: Log of a dead store = %v, %d", l, e)
	}
	if !bytes.Equal(s.Image(^uint64(0)), ahead) {
		t.Fatal("P5: a call of a dead store changed its disk")
	}
}

// The document's fourth example.
func TestExampleOfAFailure(t *testing.T) {
	both(t, func(t *testing.T, s *Store) {
		begin(t, s, 1)
		answers(t, "Put", s.Put(1, "a", "x"), api.OK)
		s.Arm(1)
		answers(t, "Commit", s.Commit(1), api.ErrCrash)
		if l, e := s.Dump(); l != nil || e != api.ErrDead {
			t.Errorf("P5: Dump = %v, %d", l, e)
		}
		answers(t, "Restart", s.Restart(0, 0, 0), api.OK)
		if l, e := s.Dump(); e != api.OK || len(l) > 0 && !slices.Equal(l, []api.Pair{{Key: "a", Val: "x"}}) {
			t.Errorf("P15: Dump = %v, %d", l, e)
		}
		begin(t, s, 1)
	})
}

// P5, P14: every call that writes, with errors of all kinds that would apply if the store were not dead.
func TestCallsOfADeadStore(t *testing.T) {
	both(t, func(t *testing.T, s *Store) {
		restart := func() {
			answers(t, "P14: Restart", s.Restart(^uint64(0), 64, 0), api.OK)
		}
		begin(t, s, 1)
		if s.mode == api.Steal {
			dies(t, "Put", s, func() api.Errno { return s.Put(1, "a", "x") })
			restart()
			begin(t, s, 1)
			dies(t, "Delete", s, func() api.Errno { return s.Delete(1, "a") })
			restart()
			begin(t, s, 1)
			puts(t, s, 1, "a")
			dies(t, "Abort", s, func() api.Errno { return s.Abort(1) })
			restart()
			holds(t, s)
			begin(t, s, 1)
		}
		puts(t, s, 1, "a")
		dies(t, "Commit", s, func() api.Errno { return s.Commit(1) })
		restart()
		dies(t, "Checkpoint", s, s.Checkpoint)
		restart()
		dies(t, "Restart", s, func() api.Errno { return s.Restart(0, 0, 1) })
		dies(t, "Restart of a dead store", s, func() api.Errno { return s.Restart(0, 0, 1) })
		restart()
		for i := range api.MaxOpen {
			begin(t, s, i+1)
		}
		puts(t, s, 1, "a", "i", "q", "y")
		for range api.MaxActions - api.MaxOpen - 4 {
			answers(t, "Checkpoint", s.Checkpoint(), api.OK)
		}
		dies(t, "Commit behind MaxActions", s, func() api.Errno { return s.Commit(1) })
		restart()
		isAtAStart(t, s)
	})
}

// P8, P13: a Commit of what has written fails at its first write; one of what has not, writes nothing.
func TestACommitWrites(t *testing.T) {
	both(t, func(t *testing.T, s *Store) {
		writes := []func(tx int) api.Errno{
			func(tx int) api.Errno { return s.Put(tx, "a", "x") },
			func(tx int) api.Errno { return s.Put(tx, "a", "x") }, // as it is already
			func(tx int) api.Errno { return s.Delete(tx, "a") },
			func(tx int) api.Errno { return s.Delete(tx, "a") }, // what is not there
		}
		for i, write := range writes {
			for _, check := range []bool{false, true} {
				begin(t, s, 1)
				answers(t, "a write", write(1), api.OK)
				if check {
					answers(t, "Checkpoint", s.Checkpoint(), api.OK)
				}
				s.Arm(1)
				if e := s.Commit(1); e != api.ErrCrash {
					t.Fatalf("P8: Commit behind write %d = %d", i, e)
				}
				restarts(t, s, 0)
			}
			begin(t, s, 1)
			answers(t, "a write", write(1), api.OK)
			answers(t, "Commit", s.Commit(1), api.OK)
			restarts(t, s, 0)
		}
		begin(t, s, 1)
		begin(t, s, 2)
		begin(t, s, 3)
		reads(t, s, 1, "a", none)
		puts(t, s, 3, "b")
		answers(t, "Put of what is held", s.Put(1, "b", ""), api.ErrLock)
		s.Arm(1)
		answers(t, "P13: Commit of what has not written", s.Commit(1), api.OK)
		answers(t, "P13: Abort of what has not written", s.Abort(2), api.OK)
		answers(t, "P13: Commit of what has", s.Commit(3), api.ErrCrash)
	})
}

// failsAt tells how many Puts are OK ahead of the one that fails: with Steal each is a write.
func failsAt(t *testing.T, s *Store) int {
	t.Helper()
	begin(t, s, 1)
	for i := range api.MaxActions - 1 {
		switch e := s.Put(1, "a", "x"); e {
		case api.OK:
		case api.ErrCrash:
			answers(t, "P5: Put", s.Put(1, "a", "x"), api.ErrDead)
			return i
		default:
			t.Fatalf("P13: Put = %d", e)
		}
	}
	return -1
}

// P13: the write is the n-th, and the last Arm holds.
func TestArmNamesTheWrite(t *testing.T) {
	s := made(t, api.Steal)
	for _, c := range []struct {
		arms []int
		want int
	}{
		{nil, -1}, {[]int{1}, 0}, {[]int{2}, 1}, {[]int{7}, 6}, {[]int{119}, 118}, {[]int{120}, -1},
		{[]int{3, 5}, 4}, {[]int{5, 3}, 2}, {[]int{1, 0}, -1}, {[]int{1, -1}, -1}, {[]int{2, math.MinInt}, -1},
		{[]int{1, math.MaxInt}, -1}, {[]int{0, -9, 4}, 3}, {[]int{math.MaxInt, 1}, 0},
	} {
		for _, n := range c.arms {
			s.Arm(n)
		}
		if got := failsAt(t, s); got != c.want {
			t.Errorf("P13: behind Arm of %v, %d Puts were OK, want %d", c.arms, got, c.want)
		}
		if c.want >= 0 {
			s.Arm(1) // of a dead store
		}
		restarts(t, s, 0)
	}
}

// P13: writes are counted from the Arm on, and an Arm that has done its work is gone.
func TestArmCountsFromNowOn(t *testing.T) {
	s := made(t, api.Steal)
	begin(t, s, 1)
	puts(t, s, 1, "a", "b")
	s.Arm(3)
	puts(t, s, 1, "c")
	reads(t, s, 1, "a", is("a"))
	answers(t, "a refused Put", s.Put(1, "", ""), api.ErrKey)
	s.Image(0)
	s.Arm(2)
	puts(t, s, 1, "d")
	answers(t, "P13: the second Put from the last Arm on", s.Put(1, "e", ""), api.ErrCrash)
	restarts(t, s, 0)
	if failsAt(t, s) != -1 {
		t.Error("P13: an Arm held behind its failure")
	}
}

// P14: a restart takes an Arm away, and its own fuse is for itself alone.
func TestNoArmHoldsBehindARestart(t *testing.T) {
	s := made(t, api.Steal)
	for _, fuse := range []int{0, -1, math.MinInt, math.MaxInt, 50, 100} {
		for _, arm := range []int{0, 1, 3, 5, 30} {
			s.Arm(arm)
			answers(t, "P14: Restart", s.Restart(0, 0, fuse), api.OK)
			if failsAt(t, s) != -1 {
				t.Fatalf("P14: behind Arm(%d) and Restart with fuse %d the disk fails", arm, fuse)
			}
		}
	}
}

// P14: a fuse names the write of the way back.
func TestAFuseNamesTheWrite(t *testing.T) {
	both(t, func(t *testing.T, s *Store) {
		want := some(t, s)
		image := s.Image(^uint64(0))
		last := 0
		for fuse := 1; ; fuse++ {
			o := opened(t, s.mode, image)
			some(t, o)
			e := o.Restart(^uint64(0), 0, fuse)
			if e == api.OK {
				break
			}
			answers(t, "P14: Restart with a fuse", e, api.ErrCrash)
			isDead(t, o)
			last = fuse
			restarts(t, o, 0)
			holds(t, o, want...)
		}
		if last == 0 {
			t.Error("P14: the way back has no write at which it fails")
		}
	})
}

// third leaves a store whose disk has failed at the third of three writes.
func third(t *testing.T) *Store {
	t.Helper()
	s := made(t, api.Steal)
	begin(t, s, 1)
	s.Arm(3)
	answers(t, "Put", s.Put(1, "a", "first"), api.OK)
	answers(t, "Put", s.Put(1, "b", "second"), api.OK)
	answers(t, "Put", s.Put(1, "c", "third"), api.ErrCrash)
	return s
}

// P12: the write at which the disk has failed is lost; of the others keep chooses.
func TestImageOfADeadStore(t *testing.T) {
	s := third(t)
	for _, keep := range keeps {
		image := s.Image(keep)
		first, second := bytes.Contains(image, []byte("first")), bytes.Contains(image, []byte("second"))
		if first != (keep&1 > 0) || second != (keep&2 > 0) || bytes.Contains(image, []byte("third")) {
			t.Errorf("P12: Image(%x) has the first write: %v, the second: %v, or has the third", keep, first, second)
		}
		if !bytes.Equal(s.Image(keep), image) {
			t.Errorf("P12: Image(%x), asked for again, is another", keep)
		}
	}
}

// torn tells the bytes that a failure leaves: the way back fails at its first write.
func torn(t *testing.T, s *Store, keep uint64, tear int) []byte {
	t.Helper()
	answers(t, "P14: Restart with fuse 1", s.Restart(keep, tear, 1), api.ErrCrash)
	image := s.Image(0)
	if !bytes.Equal(s.Image(^uint64(0)), image) {
		t.Fatal("P14: something is unsynced ahead of the first write of a way back")
	}
	return image
}

// P14: behind the writes that keep chooses come the first bytes of the one at which the disk failed.
func TestTears(t *testing.T) {
	for _, keep := range keeps {
		ahead := third(t).Image(keep)
		whole := torn(t, third(t), keep, api.Sector)
		at := 0
		for ahead[at] == whole[at] {
			at++
		}
		at -= at % api.Sector
		for tear := -3; tear <= api.Sector+3; tear++ {
			want := bytes.Clone(ahead)
			if tear >= 0 && tear <= api.Sector {
				copy(want[at:at+tear], whole[at:])
			}
			if !bytes.Equal(torn(t, third(t), keep, tear), want) {
				t.Errorf("P14: keep %x, tear %d: the disk holds something else", keep, tear)
			}
		}
		for _, tear := range []int{math.MinInt, math.MaxInt, 1 << 32, -1 << 32, 128} {
			if !bytes.Equal(torn(t, third(t), keep, tear), ahead) {
				t.Errorf("P14: keep %x, tear %d: something came of the write", keep, tear)
			}
		}
	}
}

// P14: a disk that has not failed at a write has none to be torn, though it had one once.
func TestNothingIsTornOfAStoreThatIsNotDead(t *testing.T) {
	s := third(t)
	restarts(t, s, 0)
	ahead := s.Image(0)
	if !bytes.Equal(torn(t, s, 0, api.Sector), ahead) {
		t.Error("P14: a write of an earlier failure came to the disk")
	}
}

// P2: what a dead store tells is new memory.
func TestImagesOfADeadStoreAreApart(t *testing.T) {
	s := third(t)
	image := s.Image(3)
	kept := bytes.Clone(image)
	clear(image[:cap(image)])
	if !bytes.Equal(s.Image(3), kept) {
		t.Error("P2: writing into an image changed a dead store")
	}
	restarts(t, s, 3)
	holds(t, s)
}
