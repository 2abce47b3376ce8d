package way

import (
	"bytes"
	"slices"
	"testing"

	"anvil/api"
	"anvil/disk"
	"anvil/layout"
)

func is(v string) api.Cell { return api.Cell{Is: true, Val: v} }

// both runs a test on an empty disk with each kind.
func both(t *testing.T, f func(t *testing.T, k Kind, d *disk.Disk)) {
	for mode, name := range []string{"Steal", "NoSteal"} {
		t.Run(name, func(t *testing.T) {
			d := &disk.Disk{}
			f(t, New(mode, d), d)
		})
	}
}

func begin(t *testing.T, k Kind) int {
	t.Helper()
	n, e := k.Begin()
	if e != api.OK {
		t.Fatalf("Begin: %d", e)
	}
	return n
}

func write(t *testing.T, k Kind, tx int, key string, to api.Cell) {
	t.Helper()
	if e := k.MayWrite(tx, key, to); e != api.OK {
		t.Fatalf("%d may not write %q: %d", tx, key, e)
	}
	k.Write(tx, key, to)
}

// lasting is a disk that has lost all that was not synced.
func lasting(d *disk.Disk) *disk.Disk {
	left, _ := disk.Of(d.Image(0))
	return left
}

func entriesOn(d *disk.Disk) []api.Entry {
	j := journal{volume: &volume{disk: d, start: 1}}
	return j.entries()
}

func pageOn(d *disk.Disk, n int) *page {
	p := newPool(&volume{disk: d, start: 1})
	return p.page(n)
}

func TestKnownModes(t *testing.T) {
	for mode, want := range map[int]bool{api.Steal: true, api.NoSteal: true, -1: false, 2: false, 1 << 40: false} {
		if Known(mode) != want {
			t.Errorf("P3: mode %d is known: %v", mode, !want)
		}
	}
}

func TestACommitIsWrittenAndLasting(t *testing.T) {
	both(t, func(t *testing.T, k Kind, d *disk.Disk) {
		for i, to := range []api.Cell{is("x"), is("x"), {}, {}} {
			tx := begin(t, k)
			write(t, k, tx, "a", to)
			ahead := d.Image(^uint64(0))
			k.Commit(tx)
			if bytes.Equal(ahead, d.Image(^uint64(0))) {
				t.Errorf("P8: commit %d wrote no sector", i)
			}
			left := entriesOn(lasting(d))
			if !slices.Equal(left, k.Entries()) || left[len(left)-1].Kind != api.Commit {
				t.Errorf("P8: behind commit %d lasts %+v of %+v", i, left, k.Entries())
			}
		}
	})
}

func TestACommitWithoutWritesLeavesTheDisk(t *testing.T) {
	both(t, func(t *testing.T, k Kind, d *disk.Disk) {
		ahead := d.Image(0)
		tx := begin(t, k)
		k.Read(tx, "a")
		k.Commit(tx)
		if !bytes.Equal(d.Image(^uint64(0)), ahead) {
			t.Error("P11: a commit of a transaction that only read came to the disk")
		}
	})
}

func TestNoStealKeepsOffTheDiskWhatIsNotCommitted(t *testing.T) {
	d := &disk.Disk{}
	k := New(api.NoSteal, d)
	tx := begin(t, k)
	write(t, k, tx, "a", is("secret"))
	k.Checkpoint()
	write(t, k, tx, "a", is("secret"))
	k.Checkpoint()
	if bytes.Contains(d.Image(^uint64(0)), []byte("secret")) {
		t.Error("the disk has what is not committed")
	}
	k.Commit(tx)
	k.Checkpoint()
	if got := pageOn(lasting(d), pageOf("a")).pairs; !slices.Equal(got, []api.Pair{{Key: "a", Val: "secret"}}) {
		t.Errorf("the page of a committed key is %v", got)
	}
}

func TestStealUndoesWhatTheDiskHas(t *testing.T) {
	d := &disk.Disk{}
	k := New(api.Steal, d)
	tx := begin(t, k)
	write(t, k, tx, "a", is("x"))
	write(t, k, tx, "i", api.Cell{})
	k.Checkpoint()
	if got := pageOn(lasting(d), pageOf("a")).pairs; !slices.Equal(got, []api.Pair{{Key: "a", Val: "x"}}) {
		t.Errorf("the page behind the checkpoint is %v", got)
	}
	if got := k.Committed(); len(got) != 0 {
		t.Errorf("P10: committed is %v", got)
	}
	k.Abort(tx)
	k.Checkpoint()
	if got := pageOn(lasting(d), pageOf("a")).pairs; len(got) != 0 {
		t.Errorf("the page behind the abort is %v", got)
	}
}

func TestAPageIsWrittenOverItsOlderCopy(t *testing.T) {
	both(t, func(t *testing.T, k Kind, d *disk.Disk) {
		n := pageOf("a")
		for i := range 5 {
			val := string(rune('0' + i))
			tx := begin(t, k)
			write(t, k, tx, "a", is(val))
			k.Commit(tx)
			newer := pageOn(d, n).turn
			kept := d.Read(layout.PageAt(n, newer))
			k.Checkpoint()
			if d.Read(layout.PageAt(n, newer)) != kept {
				t.Errorf("checkpoint %d wrote over the newer copy", i)
			}
			if got := pageOn(lasting(d), n); got.turn == newer || got.get("a") != is(val) {
				t.Errorf("behind checkpoint %d the newer copy is %+v", i, got)
			}
		}
	})
}

func TestACheckpointWritesNoPageThatIsUnchanged(t *testing.T) {
	both(t, func(t *testing.T, k Kind, d *disk.Disk) {
		tx := begin(t, k)
		write(t, k, tx, "a", is("x"))
		k.Commit(tx)
		k.Checkpoint()
		ahead := d.Image(0)
		k.Checkpoint()
		behind := d.Image(0)
		if end := layout.EntryAt(1) * api.Sector; !bytes.Equal(ahead[:end], behind[:end]) {
			t.Error("a checkpoint behind another wrote pages")
		}
	})
}

func TestPageOfSumsTheBytes(t *testing.T) {
	for key, want := range map[string]int{"a": 1, "i": 1, "q": 1, "y": 1, "A": 1, "b": 2, "\xff": 7, "\xff\xff": 6, "aa": 2, "\xff\xff\xff\xff\xff\xff\xff\xff": 0} {
		if got := pageOf(key); got != want {
			t.Errorf("the bucket of %q is %d, want %d", key, got, want)
		}
	}
}

func TestTheLogNeverOutgrowsItsSectors(t *testing.T) {
	for _, updates := range []int{1, 2, 60, api.MaxActions - 1} {
		k := New(api.Steal, &disk.Disk{})
		for {
			tx, e := k.Begin()
			if e != api.OK {
				break
			}
			for range updates {
				if k.MayWrite(tx, "a", is("x")) == api.OK {
					k.Write(tx, "a", is("x"))
				}
			}
			k.Abort(tx)
		}
		if got := len(k.Entries()); got == 0 || got > 2*api.MaxActions {
			t.Errorf("%d updates a transaction: %d entries", updates, got)
		}
	}
}
