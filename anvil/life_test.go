package anvil

import (
	"fmt"
	"math"
	"slices"
	"strconv"
	"strings"
	"testing"

	"anvil/api"
)

// A life is calls, one a line: all of them are OK if the disk does not fail.
const mixedLife = `begin
put 1 a 1
put 1 i 1
put 1 b 1
commit 1
begin
begin
put 2 a 2
delete 2 b
check
put 3 q 3
put 3 c 3
put 2 d 2
put 3 q 4
commit 2
check
delete 3 c
abort 3
begin
put 4 i 4
begin
put 5 y 5
put 5 h 5
check
delete 4 a
put 4 b 4
commit 5
delete 4 b
put 4 a 5
commit 4
check`

// In fullLife a page has all its slots taken, and keys come in place of others.
const fullLife = `begin
put 1 a 1
put 1 i 1
put 1 q 1
put 1 y 1
commit 1
check
begin
delete 2 a
delete 2 i
check
commit 2
begin
put 3 A 3
put 3 I 3
delete 3 q
check
abort 3
begin
put 4 A 4
put 4 i 4
commit 4
begin
delete 5 y
check
delete 5 A
abort 5
check
begin
put 6 y 6`

func called(s *Store, line string) api.Errno {
	f := strings.Fields(line + " 0 - -")
	t, _ := strconv.Atoi(f[1])
	switch f[0] {
	case "begin":
		_, e := s.Begin()
		return e
	case "put":
		return s.Put(t, f[2], f[3])
	case "delete":
		return s.Delete(t, f[2])
	case "commit":
		return s.Commit(t)
	case "abort":
		return s.Abort(t)
	}
	return s.Checkpoint()
}

// states tells what is committed ahead of each call of a life, and behind the last.
func states(t *testing.T, life []string) [][]api.Pair {
	t.Helper()
	s := made(t, api.Steal)
	var all [][]api.Pair
	for _, line := range life {
		pairs, _ := s.Dump()
		all = append(all, pairs)
		answers(t, line, called(s, line), api.OK)
	}
	pairs, _ := s.Dump()
	return append(all, pairs)
}

// lives makes the calls of a life up to the one in which the disk fails, and tells its place.
func lives(t *testing.T, s *Store, life []string) int {
	t.Helper()
	for i, line := range life {
		if e := called(s, line); e != api.OK {
			answers(t, "P14: "+line, e, api.ErrCrash)
			return i
		}
	}
	return len(life)
}

// eachFailure has the disk fail at each write of lives of stores of both modes, which
// f is given: by make, as often as it likes, dead, and with what may be committed.
func eachFailure(t *testing.T, f func(t *testing.T, make func() *Store, may [][]api.Pair)) {
	for name, text := range map[string]string{"mixed": mixedLife, "full": fullLife} {
		life := strings.Split(text, "\n")
		committed := states(t, life)
		for mode := range 2 {
			for n := 1; ; n++ {
				armed := func() (*Store, int) {
					s := made(t, mode)
					s.Arm(n)
					return s, lives(t, s, life)
				}
				_, at := armed()
				if at == len(life) {
					break
				}
				may := committed[at : at+1]
				if strings.HasPrefix(life[at], "commit") {
					may = committed[at : at+2]
				}
				t.Run(fmt.Sprintf("%s, mode %d, write %d", name, mode, n), func(t *testing.T) {
					f(t, func() *Store { s, _ := armed(); return s }, may)
				})
			}
		}
	}
}

// oneOf tells what is committed, of the sets that may be.
func oneOf(t *testing.T, s *Store, may [][]api.Pair) []api.Pair {
	t.Helper()
	got, e := s.Dump()
	if e != api.OK || !slices.ContainsFunc(may, func(l []api.Pair) bool { return slices.Equal(l, got) }) {
		t.Fatalf("P15: Dump = %v, %d, want one of %v", got, e, may)
	}
	return got
}

// goesOn tells that a store works at its start, and leaves it at another.
func goesOn(t *testing.T, s *Store, has []api.Pair) {
	t.Helper()
	logs(t, s)
	holds(t, s, has...)
	begin(t, s, 1)
	begin(t, s, 2)
	puts(t, s, 2, "g")
	for _, p := range has {
		reads(t, s, 1, p.Key, is(p.Val))
		answers(t, "Delete", s.Delete(1, p.Key), api.OK)
	}
	puts(t, s, 1, "c", "d", "e")
	answers(t, "Commit", s.Commit(1), api.OK)
	restarts(t, s, 0)
	holds(t, s, api.Pair{Key: "c", Val: "c"}, api.Pair{Key: "d", Val: "d"}, api.Pair{Key: "e", Val: "e"})
	logs(t, s)
	begin(t, s, 1)
}

// tears are all lengths of a torn write, and some that are none.
func tears() []int {
	all := []int{-1, api.Sector + 1}
	for tear := range api.Sector + 1 {
		all = append(all, tear)
	}
	return all
}

// P8, P14, P15: the disk fails at each write of each call: all of a commit, or nothing.
func TestFailuresAtEachWrite(t *testing.T) {
	eachFailure(t, func(t *testing.T, make func() *Store, may [][]api.Pair) {
		try := func(keep uint64, tear int) {
			s := make()
			answers(t, "P14: Restart", s.Restart(keep, tear, 0), api.OK)
			goesOn(t, s, oneOf(t, s, may))
		}
		for _, keep := range keeps {
			for _, tear := range []int{0, 64, 8, 63} {
				try(keep, tear)
			}
		}
		for _, tear := range tears() {
			try(^uint64(0), tear)
		}
	})
}

// P12, P15: what comes back hangs on the bytes alone: in stores opened on them, and
// however often the disk fails on the way back.
func TestTheBytesDecide(t *testing.T) {
	eachFailure(t, func(t *testing.T, make func() *Store, may [][]api.Pair) {
		for i, keep := range keeps {
			s := make()
			image := s.Image(keep)
			lost := oneOf(t, opened(t, api.Steal, image), may)
			holds(t, opened(t, api.NoSteal, image), lost...)
			answers(t, "P14: Restart", s.Restart(keep, 0, 0), api.OK)
			holds(t, s, lost...)

			s = make()
			image = torn(t, s, keep, 1+(i*23)%api.Sector)
			has := oneOf(t, opened(t, api.Steal, image), may)
			holds(t, opened(t, api.NoSteal, image), has...)
			for fuse := 1; ; fuse++ {
				e := s.Restart(keeps[(i+fuse)%len(keeps)], (i+fuse*7)%(api.Sector+1), fuse)
				if e == api.OK {
					break
				}
				answers(t, "P14: Restart with a fuse", e, api.ErrCrash)
				for mode := range 2 {
					holds(t, opened(t, mode, s.Image(keeps[(i+2*fuse)%len(keeps)])), has...)
				}
			}
			goesOn(t, s, has)
		}
	})
}

// P14, P15: the disk fails at each write of the way back, with every tear, and again on the next.
func TestFailuresOnTheWayBack(t *testing.T) {
	eachFailure(t, func(t *testing.T, make func() *Store, may [][]api.Pair) {
		all := tears()
		for fuse, back := 1, false; !back; fuse++ {
			for i, tear := range all {
				s := make()
				e := s.Restart(^uint64(0), 64, fuse)
				if back = e == api.OK; back {
					break
				}
				answers(t, "P14: Restart with a fuse", e, api.ErrCrash)
				keep, next := keeps[i%len(keeps)], keeps[(i+fuse)%len(keeps)]
				has := oneOf(t, opened(t, i%2, s.Image(keep)), may)
				e = s.Restart(keep, tear, 1+(fuse+i)%7)
				if e == api.ErrCrash {
					e = s.Restart(next, all[i*5%len(all)], 0)
				}
				answers(t, "P14: Restart", e, api.OK)
				holds(t, s, has...)
				if i%8 == 0 {
					goesOn(t, s, has)
				}
			}
		}
	})
}

// P8, P14, P15: the disk fails in the end of a transaction that wrote as much as one may: with
// far more unsynced writes than keep has bits.
func TestFailuresInLongEnds(t *testing.T) {
	for _, end := range []string{"commit 1", "abort 1"} {
		life := []string{"begin"}
		for i := range api.MaxActions - 1 {
			life = append(life, fmt.Sprintf("put 1 %c %d", 'a'+i%11, i))
		}
		life = append(life, end)
		committed := states(t, life)
		for mode := range 2 {
			for n, at := 1, 0; at < len(life); n++ {
				for i, keep := range keeps {
					s := made(t, mode)
					s.Arm(n)
					at = lives(t, s, life)
					may := committed[at:]
					answers(t, "P14: Restart", s.Restart(keep, []int{0, 64, 20}[i%3], 0), api.OK)
					if at < len(life)-1 {
						may = committed[:1]
					}
					oneOf(t, s, may)
				}
			}
		}
	}
}

// P1, P14: all numbers, of stores that are dead and that are not.
func TestRestartsWithAllNumbers(t *testing.T) {
	numbers := []int{math.MinInt, math.MinInt + 1, -1 << 32, -65, -1, 0, 1, 2, 7, 63, 64, 65, 1 << 32, math.MaxInt - 1, math.MaxInt}
	both(t, func(t *testing.T, s *Store) {
		want := some(t, s)
		for i, tear := range numbers {
			for j, fuse := range numbers {
				s.Arm(numbers[(i+j)%len(numbers)])
				s.Checkpoint()
				switch e := s.Restart(keeps[(i+j)%len(keeps)], tear, fuse); {
				case e == api.OK:
					holds(t, s, want...)
				case e == api.ErrCrash && fuse > 0:
					isDead(t, s)
				default:
					t.Fatalf("P14: Restart with tear %d, fuse %d = %d", tear, fuse, e)
				}
			}
		}
		restarts(t, s, 0)
		goesOn(t, s, want)
	})
}
