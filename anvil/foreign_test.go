package anvil

import (
	"bytes"
	"math/rand"
	"testing"

	"anvil/api"
)

// adopted tells the model of a store on bytes that no store has written, or nil
// if Open refused them.
func adopted(t *testing.T, mode int, image []byte) (*Store, *model) {
	t.Helper()
	s, e := Open(mode, image)
	if s == nil && e == api.ErrCorrupt {
		return nil, nil
	}
	if s == nil || e != api.OK {
		t.Fatalf("P4: Open = %v, %d", s != nil, e)
	}
	m := newModel(mode)
	pairs, _ := s.Dump()
	of := map[int]int{}
	for _, p := range pairs {
		m.committed[p.Key] = p.Val
		of[bucketOf(p.Key)]++
		if p.Key == "" || len(p.Key) > api.MaxKey || len(p.Val) > api.MaxValue || of[bucketOf(p.Key)] > api.Slots {
			t.Fatalf("P4: a store with %q", pairs)
		}
	}
	sameAs(t, "Open", s, m)
	return s, m
}

// lived tells images of one store from some moments of its life.
func lived(t *testing.T, r *rand.Rand, mode int) [][]byte {
	s, m := made(t, mode), newModel(mode)
	var images [][]byte
	for range 4 {
		s = someLife(t, r, s, m, 20+r.Intn(60))
		images = append(images, s.Image(someKeep(r)))
		answers(t, "Restart", s.Restart(someKeep(r), 0, 1), api.ErrCrash)
		images = append(images, torn(t, s, someKeep(r), someTear(r)))
		s = backFromDead(t, r, s, m, [][]api.Pair{m.dump()})
	}
	return images
}

// spoilt tells bytes that are not quite an image.
func spoilt(r *rand.Rand, images [][]byte) []byte {
	image := bytes.Clone(images[r.Intn(len(images))])
	from := images[r.Intn(len(images))]
	used := 34 + 20 // sectors that a short life may have written
	for range 1 + r.Intn(12) {
		at, to := r.Intn(used)*api.Sector, r.Intn(used)*api.Sector
		switch r.Intn(5) {
		case 0: // a sector of another moment
			copy(image[at:at+api.Sector], from[at:])
		case 1: // part of one
			copy(image[at:at+r.Intn(api.Sector)], from[at:])
		case 2: // a sector in another's place
			copy(image[at:at+api.Sector], from[to:])
		case 3: // some other byte, ahead of the stamp at the end
			image[at+r.Intn(api.Sector-8)] = byte(r.Intn(256))
		case 4: // a byte a little greater
			image[at+r.Intn(api.Sector)]++
		}
	}
	return image
}

// P1, P4: Open of bytes that no store has written, and that what it answers is a
// store as any other.
func TestSpoiltImages(t *testing.T) {
	stores, refused := 0, 0
	seeds(t, 100, func(t *testing.T, r *rand.Rand, mode int) {
		images := lived(t, r, mode)
		for range 20 {
			s, m := adopted(t, r.Intn(2), spoilt(r, images))
			if s == nil {
				refused++
				continue
			}
			stores++
			someLife(t, r, s, m, 40)
		}
	})
	if stores == 0 || refused == 0 {
		t.Errorf("%d were opened, %d refused: the test tries too little", stores, refused)
	}
}

// P1, P4: bytes that are nothing at all.
func TestBytesOfNobody(t *testing.T) {
	r := rand.New(rand.NewSource(1))
	for mode := range 2 {
		for with := range 256 {
			adopted(t, mode, bytes.Repeat([]byte{byte(with)}, imageBytes))
		}
		for range 50 {
			image := make([]byte, imageBytes)
			for i := range image {
				image[i] = byte(r.Intn(256))
			}
			adopted(t, mode, image)
		}
	}
}
