package anvil

import (
	"fmt"
	"math/rand"
	"slices"
	"testing"

	"anvil/api"
)

// someKey tells a key of one of a few buckets, now and then none.
func someKey(r *rand.Rand) string {
	keys := []string{"a", "i", "q", "y", "A", "I", "b", "j", "\x00", "\xff\x00", "\x08", "12345678", "\x07\x09\x10", "zz"}
	wrong := []string{"", "123456789", "a longer key"}
	if r.Intn(25) == 0 {
		return wrong[r.Intn(len(wrong))]
	}
	return keys[r.Intn(len(keys))]
}

func someValue(r *rand.Rand) string {
	long := "\x0012345678901\xff"
	if r.Intn(25) == 0 {
		return long
	}
	return long[:r.Intn(api.MaxValue+1)]
}

// someCall calls the store and the model alike, and tells what both answered.
func someCall(r *rand.Rand, s *Store, m *model) (what, got, want string) {
	t := m.begun - r.Intn(7) + 1
	key, val := someKey(r), someValue(r)
	tell := func(a ...any) string { return fmt.Sprintf("%+v", a) }
	switch n := r.Intn(100); {
	case n < 12:
		a, b := s.Begin()
		c, d := m.begin()
		return "Begin", tell(a, b), tell(c, d)
	case n < 35:
		a, b := s.Get(t, key)
		c, d := m.get(t, key)
		return tell("Get", t, key), tell(a, b), tell(c, d)
	case n < 65:
		return tell("Put", t, key, val), tell(s.Put(t, key, val)), tell(m.write(t, key, api.Cell{Is: true, Val: val}))
	case n < 77:
		return tell("Delete", t, key), tell(s.Delete(t, key)), tell(m.write(t, key, api.Cell{}))
	case n < 87:
		return tell("Commit", t), tell(s.Commit(t)), tell(m.commit(t))
	case n < 94:
		return tell("Abort", t), tell(s.Abort(t)), tell(m.abort(t))
	}
	return "Checkpoint", tell(s.Checkpoint()), tell(m.checkpoint())
}

// sameCall makes one call and holds all that the store tells against the model.
func sameCall(t *testing.T, r *rand.Rand, s *Store, m *model) {
	t.Helper()
	what, got, want := someCall(r, s, m)
	if got != want {
		t.Fatalf("%s = %s, want %s", what, got, want)
	}
	sameAs(t, what, s, m)
}

func sameAs(t *testing.T, what string, s *Store, m *model) {
	t.Helper()
	if pairs, e := s.Dump(); e != api.OK || !slices.Equal(pairs, m.dump()) {
		t.Fatalf("P10: behind %s Dump = %v, %d, want %v", what, pairs, e, m.dump())
	}
	if log, e := s.Log(); e != api.OK || !slices.Equal(log, m.log) {
		t.Fatalf("P11: behind %s Log = %+v, %d, want %+v", what, log, e, m.log)
	}
}

// seeds runs a test with some random sources, for stores of both modes.
func seeds(t *testing.T, n int64, f func(t *testing.T, r *rand.Rand, mode int)) {
	for seed := range n {
		for mode, name := range []string{"Steal", "NoSteal"} {
			t.Run(fmt.Sprintf("%s%d", name, seed), func(t *testing.T) {
				f(t, rand.New(rand.NewSource(seed)), mode)
			})
		}
	}
}

// TestAsTheModel: P1, P6 to P11: any run of calls is answered as the model answers it.
func TestAsTheModel(t *testing.T) {
	seeds(t, 150, func(t *testing.T, r *rand.Rand, mode int) {
		s, m := made(t, mode), newModel(mode)
		for range 260 {
			sameCall(t, r, s, m)
		}
	})
}

// someKeep tells a choice of which all, none, few or half of the writes are kept.
func someKeep(r *rand.Rand) uint64 {
	switch r.Intn(5) {
	case 0:
		return 0
	case 1:
		return ^uint64(0)
	case 2:
		return 1<<r.Intn(64) | 1<<r.Intn(8)
	case 3:
		return ^(1<<r.Intn(64) | 1<<r.Intn(8))
	}
	return r.Uint64()
}

// sameBack has a store come back, by Restart or in one that is opened on its
// image, of either mode, and holds that against the model.
func sameBack(t *testing.T, r *rand.Rand, s *Store, m *model) *Store {
	t.Helper()
	keep, mode := someKeep(r), r.Intn(2)
	for range 2 {
		o := opened(t, mode, s.Image(keep))
		behind := *m
		behind.start(mode)
		sameAs(t, fmt.Sprintf("Open(%d, Image(%x))", mode, keep), o, &behind)
		sameAs(t, "Image", s, m)
		if r.Intn(3) == 0 {
			m.start(mode)
			return o
		}
		mode = 1 - mode
	}
	answers(t, "P14: Restart", s.Restart(keep, r.Intn(70)-3, 0), api.OK)
	m.start(m.mode)
	sameAs(t, fmt.Sprintf("Restart(%x)", keep), s, m)
	return s
}

// TestAsTheModelBehindStarts: P4, P12, P14, P15, and P6 to P11 of stores that came back.
func TestAsTheModelBehindStarts(t *testing.T) {
	seeds(t, 150, func(t *testing.T, r *rand.Rand, mode int) {
		s, m := made(t, mode), newModel(mode)
		often := 2 + r.Intn(60)
		for range 400 {
			sameCall(t, r, s, m)
			if r.Intn(often) == 0 {
				s = sameBack(t, r, s, m)
			}
		}
	})
}

// someTear tells a length of a torn write, now and then none.
func someTear(r *rand.Rand) int {
	ends := []int{0, 1, 3, 4, 7, 8, 56, 57, 59, 60, 63, 64, -1, 65}
	if r.Intn(2) == 0 {
		return ends[r.Intn(len(ends))]
	}
	return r.Intn(api.Sector + 1)
}

// backFromDead has a dead store come back, of which one of these sets is committed,
// and holds it against the stores that are opened on its images on the way.
func backFromDead(t *testing.T, r *rand.Rand, s *Store, m *model, may [][]api.Pair) *Store {
	t.Helper()
	for decided := false; ; decided = true {
		keep, tear, fuse := someKeep(r), someTear(r), max(r.Intn(24)-10, 0)
		mode, image := r.Intn(2), s.Image(keep)
		o := opened(t, mode, image)
		has := oneOf(t, o, may)
		holds(t, opened(t, 1-mode, image), has...)
		if decided || tear == 0 {
			may = [][]api.Pair{has}
		}
		if r.Intn(8) == 0 {
			m.restore(mode, has)
			return o
		}
		if e := s.Restart(keep, tear, fuse); e == api.OK {
			m.restore(s.mode, oneOf(t, s, may))
			return s
		} else if e != api.ErrCrash || fuse == 0 {
			t.Fatalf("P14: Restart(%x, %d, %d) = %d", keep, tear, fuse, e)
		}
		isDead(t, s)
	}
}

// callOrFailure makes one call, in which the disk may fail.
func callOrFailure(t *testing.T, r *rand.Rand, s *Store, m *model) *Store {
	t.Helper()
	ahead := m.dump()
	what, got, want := someCall(r, s, m)
	crash := fmt.Sprintf("%+v", []any{api.ErrCrash})
	if got == crash {
		s = backFromDead(t, r, s, m, [][]api.Pair{ahead, m.dump()})
	} else if got != want {
		t.Fatalf("%s = %s, want %s", what, got, want)
	}
	sameAs(t, what, s, m)
	return s
}

// someLife makes calls, with failures at writes and between calls.
func someLife(t *testing.T, r *rand.Rand, s *Store, m *model, calls int) *Store {
	t.Helper()
	often := 3 + r.Intn(60)
	for range calls {
		s = callOrFailure(t, r, s, m)
		switch r.Intn(often) {
		case 0:
			s.Arm(r.Intn(20) - 1)
		case 1:
			s.Arm(1)
		case 2:
			s = sameBack(t, r, s, m)
		}
	}
	return s
}

// TestAsTheModelWithFailures: P5, P8, P12 to P15, and P6 to P11 of stores whose disk has failed at writes.
func TestAsTheModelWithFailures(t *testing.T) {
	seeds(t, 200, func(t *testing.T, r *rand.Rand, mode int) {
		someLife(t, r, made(t, mode), newModel(mode), 400)
	})
}
