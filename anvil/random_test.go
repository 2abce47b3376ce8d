package anvil

import (
	"fmt"
	"math/rand"
	"slices"
	"testing"

	"anvil/api"
)

// someKey tells a key of one of a few buckets, now and then none.
func someKey(r *rand.Rand) string {
	keys := []string{"a", "i", "q", "y", "A", "I", "b", "j", "\x00", "\xff\x00", "\x08", "12345678", "\x07\x09\x10", "zz"}
	wrong := []string{"", "123456789", "a longer key"}
	if r.Intn(25) == 0 {
		return wrong[r.Intn(len(wrong))]
	}
	return keys[r.Intn(len(keys))]
}

func someValue(r *rand.Rand) string {
	long := "\x0012345678901\xff"
	if r.Intn(25) == 0 {
		return long
	}
	return long[:r.Intn(api.MaxValue+1)]
}

// someCall calls the store and the model alike, and tells what both answered.
func someCall(r *rand.Rand, s *Store, m *model) (what, got, want string) {
	t := m.begun - r.Intn(7) + 1
	key, val := someKey(r), someValue(r)
	tell := func(a ...any) string { return fmt.Sprintf("%+v", a) }
	switch n := r.Intn(100); {
	case n < 12:
		a, b := s.Begin()
		c, d := m.begin()
		return "Begin", tell(a, b), tell(c, d)
	case n < 35:
		a, b := s.Get(t, key)
		c, d := m.get(t, key)
		return tell("Get", t, key), tell(a, b), tell(c, d)
	case n < 65:
		return tell("Put", t, key, val), tell(s.Put(t, key, val)), tell(m.write(t, key, api.Cell{Is: true, Val: val}))
	case n < 77:
		return tell("Delete", t, key), tell(s.Delete(t, key)), tell(m.write(t, key, api.Cell{}))
	case n < 87:
		return tell("Commit", t), tell(s.Commit(t)), tell(m.commit(t))
	case n < 94:
		return tell("Abort", t), tell(s.Abort(t)), tell(m.abort(t))
	}
	return "Checkpoint", tell(s.Checkpoint()), tell(m.checkpoint())
}

// TestAsTheModel: P1, P6 to P11: any run of calls is answered as the model answers it.
func TestAsTheModel(t *testing.T) {
	for seed := range int64(150) {
		for _, mode := range []int{api.Steal, api.NoSteal} {
			r := rand.New(rand.NewSource(seed))
			s, _ := New(mode)
			m := newModel(mode)
			for i := range 260 {
				what, got, want := someCall(r, s, m)
				if got != want {
					t.Fatalf("seed %d, mode %d, call %d: %s = %s, want %s", seed, mode, i, what, got, want)
				}
				if pairs, e := s.Dump(); e != api.OK || !slices.Equal(pairs, m.dump()) {
					t.Fatalf("P10: seed %d, mode %d, call %d: behind %s Dump = %v, %d, want %v", seed, mode, i, what, pairs, e, m.dump())
				}
				if log, e := s.Log(); e != api.OK || !slices.Equal(log, m.log) {
					t.Fatalf("P11: seed %d, mode %d, call %d: behind %s Log = %+v, %d, want %+v", seed, mode, i, what, log, e, m.log)
				}
			}
		}
	}
}
