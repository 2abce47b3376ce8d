package disk

import (
	"bytes"
	"math"
	"testing"

	"anvil/api"
)

func filled(with byte) Block {
	var b Block
	for i := range b {
		b[i] = with
	}
	return b
}

func sectorOf(image []byte, at int) Block {
	return Block(image[at*api.Sector : (at+1)*api.Sector])
}

func TestReadTellsTheLastWrite(t *testing.T) {
	d := &Disk{}
	for _, at := range []int{0, 1, api.Sectors - 1} {
		if d.Read(at) != (Block{}) {
			t.Errorf("sector %d of an empty disk is not zero", at)
		}
	}
	d.Write(3, filled(1))
	d.Write(4, filled(2))
	d.Write(3, filled(3))
	if d.Read(3) != filled(3) || d.Read(4) != filled(2) || d.Read(5) != (Block{}) {
		t.Error("unsynced writes are not read back")
	}
	d.Sync()
	d.Write(4, filled(9))
	if d.Read(3) != filled(3) || d.Read(4) != filled(9) {
		t.Error("writes are not read back behind a sync")
	}
}

func TestUnsyncedWritesAreLostButForThoseKept(t *testing.T) {
	d := &Disk{}
	d.Write(7, filled(1))
	d.Sync()
	d.Write(7, filled(2)) // 0
	d.Write(8, filled(3)) // 1
	d.Write(7, filled(4)) // 2
	for _, c := range []struct {
		keep         uint64
		seven, eight byte
	}{{0, 1, 0}, {1, 2, 0}, {2, 1, 3}, {4, 4, 0}, {5, 4, 0}, {7, 4, 3}, {^uint64(0), 4, 3}, {8, 1, 0}} {
		image := d.Image(c.keep)
		if len(image) != 27776 || sectorOf(image, 7) != filled(c.seven) || sectorOf(image, 8) != filled(c.eight) {
			t.Errorf("keep %b: sectors 7 and 8 begin by %d, %d", c.keep, sectorOf(image, 7)[0], sectorOf(image, 8)[0])
		}
	}
	d.Sync()
	if image := d.Image(0); sectorOf(image, 7) != filled(4) || sectorOf(image, 8) != filled(3) {
		t.Error("a sync did not make the writes lasting")
	}
}

func TestKeepCountsModulo64(t *testing.T) {
	d := &Disk{}
	for i := range 70 {
		d.Write(i, filled(byte(i+1)))
	}
	image := d.Image(1 << 3)
	for i := range 70 {
		want := Block{}
		if i == 3 || i == 67 {
			want = filled(byte(i + 1))
		}
		if sectorOf(image, i) != want {
			t.Errorf("write %d: its sector begins by %d", i, sectorOf(image, i)[0])
		}
	}
}

func TestFailLeavesWhatImageTells(t *testing.T) {
	for keep := range uint64(8) {
		d := &Disk{}
		d.Write(7, filled(1))
		d.Sync()
		d.Write(7, filled(2))
		d.Write(8, filled(3))
		d.Write(7, filled(4))
		want := d.Image(keep)
		d.Fail(keep, 64)
		if !bytes.Equal(d.Image(0), want) || !bytes.Equal(d.Image(^uint64(0)), want) {
			t.Errorf("keep %b: the disk holds something else, or has unsynced writes", keep)
		}
		if d.Read(7) != sectorOf(want, 7) || d.Read(8) != sectorOf(want, 8) {
			t.Errorf("keep %b: sectors 7 and 8 are read as %d, %d", keep, d.Read(7)[0], d.Read(8)[0])
		}
	}
}

func TestADiskOfAnImage(t *testing.T) {
	image := make([]byte, 2*api.Sectors*api.Sector)
	for i := range image {
		image[i] = byte(i/api.Sector + i)
	}
	kept := bytes.Clone(image)
	for _, n := range []int{0, 1, api.Sector, 27775, 27777, len(image)} {
		if d, ok := Of(image[:n]); d != nil || ok {
			t.Errorf("a disk of %d bytes", n)
		}
	}
	d, ok := Of(image[:27776])
	if !ok || !bytes.Equal(d.Image(0), kept[:27776]) || !bytes.Equal(d.Image(^uint64(0)), kept[:27776]) {
		t.Error("a disk holds other bytes than those of its image")
	}
	clear(image)
	if !bytes.Equal(d.Image(0), kept[:27776]) {
		t.Error("a disk keeps what it was made of")
	}
	d.Write(0, filled(9))
	d.Sync()
	if !bytes.Equal(image, make([]byte, len(image))) {
		t.Error("a disk writes into what it was made of")
	}
}

func TestImageIsNewMemory(t *testing.T) {
	d := &Disk{}
	d.Write(0, filled(1))
	d.Sync()
	first := d.Image(0)
	clear(first[:cap(first)])
	if second := d.Image(0); bytes.Equal(first, second) || d.Read(0) != filled(1) {
		t.Error("writing into an image reached the disk")
	}
}

// fails tells whether the disk fails at a write.
func fails(d *Disk, at int, data Block) (is bool) {
	defer func() {
		_, is = recover().(Failure)
	}()
	d.Write(at, data)
	return false
}

func TestTheDiskFailsAtTheWriteThatIsArmed(t *testing.T) {
	for _, n := range []int{1, 2, 3, 9} {
		d := &Disk{}
		d.Arm(n)
		for i := 1; i < n; i++ {
			if fails(d, i, filled(byte(i))) {
				t.Fatalf("armed at %d, it fails at %d", n, i)
			}
			d.Sync()
		}
		if !fails(d, 20, filled(20)) {
			t.Errorf("armed at %d, it does not fail there", n)
		}
		d.Fail(0, 0)
		for range 20 {
			if fails(d, 1, filled(1)) {
				t.Fatalf("armed at %d, it fails twice", n)
			}
		}
	}
}

func TestTheLastArmHolds(t *testing.T) {
	for _, c := range []struct{ first, last, at int }{{1, 3, 3}, {3, 1, 1}, {1, 0, 0}, {2, -1, 0}, {1, math.MinInt, 0}, {1, math.MaxInt, 0}, {0, 2, 2}} {
		d := &Disk{}
		d.Arm(c.first)
		d.Arm(c.last)
		at := 0
		for i := 1; i <= 5 && at == 0; i++ {
			if fails(d, i, filled(1)) {
				at = i
			}
		}
		if at != c.at {
			t.Errorf("armed at %d, then at %d, it fails at %d, want %d", c.first, c.last, at, c.at)
		}
	}
}

// cutAt is a disk that has failed at its fourth write from the sync on, which goes to a sector.
func cutAt(at int) *Disk {
	d := &Disk{}
	d.Write(7, filled(1))
	d.Sync()
	d.Arm(4)
	d.Write(7, filled(2))
	d.Write(8, filled(3))
	d.Write(7, filled(4))
	fails(d, at, filled(5))
	return d
}

func TestOfTheLastWriteTheFirstBytesAreLeft(t *testing.T) {
	for _, at := range []int{7, 8, 9} {
		for keep := range uint64(16) {
			ahead := cutAt(at).Image(keep)
			for tear := -2; tear <= api.Sector+2; tear++ {
				want := bytes.Clone(ahead)
				for i := range tear {
					if tear <= api.Sector {
						want[at*api.Sector+i] = 5
					}
				}
				d := cutAt(at)
				d.Fail(keep, tear)
				if !bytes.Equal(d.Image(0), want) || !bytes.Equal(d.Image(^uint64(0)), want) {
					t.Errorf("sector %d, keep %b, tear %d: the disk holds something else, or has unsynced writes", at, keep, tear)
				}
			}
		}
	}
}

func TestTheLastWriteIsNoneOfTheUnsynced(t *testing.T) {
	d := cutAt(9)
	if image := d.Image(^uint64(0)); sectorOf(image, 9) != (Block{}) || sectorOf(image, 7) != filled(4) {
		t.Error("an image has the write at which the disk has failed, or lost another")
	}
}

func TestAFailureIsForgotten(t *testing.T) {
	d := cutAt(9)
	d.Fail(0, 0)
	ahead := d.Image(0)
	d.Arm(1)
	d.Fail(0, api.Sector)
	if !bytes.Equal(d.Image(0), ahead) {
		t.Error("a write of an earlier failure came to the disk")
	}
	if fails(d, 1, filled(1)) {
		t.Error("an Arm held behind a failure")
	}
}
