package anvil

import (
	"bytes"
	"math"
	"slices"
	"strings"
	"testing"

	"anvil/api"
)

// wildNumbers are transactions that are open (2 and 4 behind some), and others.
var wildNumbers = []int{math.MinInt, -1 << 32, -1, 0, 1, 2, 3, 4, 5, 256, 1 << 32, 1<<32 + 2, math.MaxInt}

// wildTexts are keys and values, and others.
func wildTexts() []string {
	return []string{
		"", "a", "\x00", "\xff\xfe", "é", "12345678", "123456789", "123456789012", "1234567890123",
		strings.Repeat("\xff", 8), strings.Repeat("\x00", 12), strings.Repeat("a", 256+1), strings.Repeat("k", 1<<20),
	}
}

// wildErrno tells what a call with this transaction, key and value is refused for, ahead of locks and of room.
func wildErrno(tx int, key, val string) api.Errno {
	switch {
	case tx != 2 && tx != 4:
		return api.ErrTx
	case key == "" || len(key) > 8:
		return api.ErrKey
	case len(val) > 12:
		return api.ErrValue
	}
	return api.OK
}

// unchanged makes a call that is refused, and tells why.
func unchanged(t *testing.T, s *Store, call func() api.Errno) api.Errno {
	t.Helper()
	pairs, _ := s.Dump()
	log, _ := s.Log()
	image := s.Image(^uint64(0))
	e := call()
	holds(t, s, pairs...)
	logs(t, s, log...)
	if !bytes.Equal(s.Image(^uint64(0)), image) {
		t.Error("P1: a call that was refused has written")
	}
	return e
}

// P1: all numbers and texts, on stores that New gave and that Open gave: what is
// refused is refused for the first error that applies, and changes nothing.
func TestWildNumbersAndTexts(t *testing.T) {
	both(t, func(t *testing.T, made *Store) {
		for _, s := range []*Store{made, opened(t, made.mode, made.Image(0))} {
			some(t, s)
			for _, tx := range wildNumbers {
				for _, key := range wildTexts() {
					wildWrites(t, s, tx, key)
				}
				if tx != 2 && tx != 4 {
					answers(t, "P8: Commit", unchanged(t, s, func() api.Errno { return s.Commit(tx) }), api.ErrTx)
					answers(t, "P8: Abort", unchanged(t, s, func() api.Errno { return s.Abort(tx) }), api.ErrTx)
				}
			}
		}
	})
}

// wildWrites makes the calls with a key, and with all values that are refused.
func wildWrites(t *testing.T, s *Store, tx int, key string) {
	t.Helper()
	if e := wildErrno(tx, key, ""); e != api.OK {
		refuses(t, s, tx, key, e)
		answers(t, "P7: Delete", unchanged(t, s, func() api.Errno { return s.Delete(tx, key) }), e)
	}
	for _, val := range wildTexts() {
		if e := wildErrno(tx, key, val); e != api.OK {
			answers(t, "P7: Put", unchanged(t, s, func() api.Errno { return s.Put(tx, key, val) }), e)
		}
	}
}

// P1, P4: lists of all lengths, and modes of all numbers.
func TestWildImages(t *testing.T) {
	for _, mode := range slices.Concat(wildNumbers, []int{api.Steal, api.NoSteal}) {
		for _, n := range []int{0, 1, 64, imageBytes - 1, imageBytes, imageBytes + 1, 1 << 20} {
			s, e := Open(mode, make([]byte, n))
			want := api.ErrMode
			if mode == api.Steal || mode == api.NoSteal {
				want = api.ErrCorrupt // of noughts too: there is no master record
			}
			if s != nil || e != want {
				t.Errorf("P4: Open(%d) of %d noughts = %v, %d", mode, n, s != nil, e)
			}
		}
	}
}

// P1, P12, P13: all numbers of Arm and Image, whatever the store is.
func TestWildArmsAndImages(t *testing.T) {
	both(t, func(t *testing.T, s *Store) {
		want := some(t, s)
		wildArms := func() {
			for _, n := range wildNumbers {
				s.Arm(n)
				for _, keep := range keeps {
					if got := len(s.Image(keep)); got != imageBytes {
						t.Errorf("P12: an image of %d bytes", got)
					}
				}
			}
		}
		wildArms()
		dies(t, "Checkpoint", s, s.Checkpoint)
		wildArms()
		isDead(t, s)
		restarts(t, s, 0)
		holds(t, s, want...)
	})
}
