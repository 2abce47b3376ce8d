package disk

import (
	"bytes"
	"testing"

	"anvil/api"
)

func filled(with byte) Block {
	var b Block
	for i := range b {
		b[i] = with
	}
	return b
}

func sectorOf(image []byte, at int) Block {
	return Block(image[at*api.Sector : (at+1)*api.Sector])
}

func TestReadTellsTheLastWrite(t *testing.T) {
	d := &Disk{}
	for _, at := range []int{0, 1, api.Sectors - 1} {
		if d.Read(at) != (Block{}) {
			t.Errorf("sector %d of an empty disk is not zero", at)
		}
	}
	d.Write(3, filled(1))
	d.Write(4, filled(2))
	d.Write(3, filled(3))
	if d.Read(3) != filled(3) || d.Read(4) != filled(2) || d.Read(5) != (Block{}) {
		t.Error("unsynced writes are not read back")
	}
	d.Sync()
	d.Write(4, filled(9))
	if d.Read(3) != filled(3) || d.Read(4) != filled(9) {
		t.Error("writes are not read back behind a sync")
	}
}

func TestUnsyncedWritesAreLostButForThoseKept(t *testing.T) {
	d := &Disk{}
	d.Write(7, filled(1))
	d.Sync()
	d.Write(7, filled(2)) // 0
	d.Write(8, filled(3)) // 1
	d.Write(7, filled(4)) // 2
	for _, c := range []struct {
		keep         uint64
		seven, eight byte
	}{{0, 1, 0}, {1, 2, 0}, {2, 1, 3}, {4, 4, 0}, {5, 4, 0}, {7, 4, 3}, {^uint64(0), 4, 3}, {8, 1, 0}} {
		image := d.Image(c.keep)
		if len(image) != 27776 || sectorOf(image, 7) != filled(c.seven) || sectorOf(image, 8) != filled(c.eight) {
			t.Errorf("keep %b: sectors 7 and 8 begin by %d, %d", c.keep, sectorOf(image, 7)[0], sectorOf(image, 8)[0])
		}
	}
	d.Sync()
	if image := d.Image(0); sectorOf(image, 7) != filled(4) || sectorOf(image, 8) != filled(3) {
		t.Error("a sync did not make the writes lasting")
	}
}

func TestKeepCountsModulo64(t *testing.T) {
	d := &Disk{}
	for i := range 70 {
		d.Write(i, filled(byte(i+1)))
	}
	image := d.Image(1 << 3)
	for i := range 70 {
		want := Block{}
		if i == 3 || i == 67 {
			want = filled(byte(i + 1))
		}
		if sectorOf(image, i) != want {
			t.Errorf("write %d: its sector begins by %d", i, sectorOf(image, i)[0])
		}
	}
}

func TestFailLeavesWhatImageTells(t *testing.T) {
	for keep := range uint64(8) {
		d := &Disk{}
		d.Write(7, filled(1))
		d.Sync()
		d.Write(7, filled(2))
		d.Write(8, filled(3))
		d.Write(7, filled(4))
		want := d.Image(keep)
		d.Fail(keep)
		if !bytes.Equal(d.Image(0), want) || !bytes.Equal(d.Image(^uint64(0)), want) {
			t.Errorf("keep %b: the disk holds something else, or has unsynced writes", keep)
		}
		if d.Read(7) != sectorOf(want, 7) || d.Read(8) != sectorOf(want, 8) {
			t.Errorf("keep %b: sectors 7 and 8 are read as %d, %d", keep, d.Read(7)[0], d.Read(8)[0])
		}
	}
}

func TestADiskOfAnImage(t *testing.T) {
	image := make([]byte, 2*api.Sectors*api.Sector)
	for i := range image {
		image[i] = byte(i/api.Sector + i)
	}
	kept := bytes.Clone(image)
	for _, n := range []int{0, 1, api.Sector, 27775, 27777, len(image)} {
		if d, ok := Of(image[:n]); d != nil || ok {
			t.Errorf("a disk of %d bytes", n)
		}
	}
	d, ok := Of(image[:27776])
	if !ok || !bytes.Equal(d.Image(0), kept[:27776]) || !bytes.Equal(d.Image(^uint64(0)), kept[:27776]) {
		t.Error("a disk holds other bytes than those of its image")
	}
	clear(image)
	if !bytes.Equal(d.Image(0), kept[:27776]) {
		t.Error("a disk keeps what it was made of")
	}
	d.Write(0, filled(9))
	d.Sync()
	if !bytes.Equal(image, make([]byte, len(image))) {
		t.Error("a disk writes into what it was made of")
	}
}

func TestImageIsNewMemory(t *testing.T) {
	d := &Disk{}
	d.Write(0, filled(1))
	d.Sync()
	first := d.Image(0)
	clear(first[:cap(first)])
	if second := d.Image(0); bytes.Equal(first, second) || d.Read(0) != filled(1) {
		t.Error("writing into an image reached the disk")
	}
}
