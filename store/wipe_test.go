package store_test

import (
	"math/rand"
	"slices"
	"strings"
	"testing"

	"tabulary/api"
	"tabulary/disk"
	"tabulary/store"
)

// wantWiped fails the test, unless the record of a text at a sector is wiped, and all else is what is read.
func wantWiped(t *testing.T, d api.Disk, at int, s string) api.Disk {
	t.Helper()
	want := onto(api.Disk{Size: d.Size, Kept: disk.Image(d)}, at, wipedOf(d.Size, s))
	got, e := store.Wipe(d, at)
	wantDisk(t, "wiped", got, want)
	if e != api.OK || !disk.Right(got) {
		t.Fatalf("%d bytes at %d of %s: %d", len(s), at, toldOf(d), e)
	}
	return got
}

// P11.3: Wipe of records of all edges, synced or not, once and twice: the head is left, and no more.
func TestWipe(t *testing.T) {
	r := rand.New(rand.NewSource(21))
	for _, size := range []int{96, 97, 512, 1024} {
		for _, n := range append(fullTexts(size), 0, 1, 2, size, size-68, 2*size-68, 2*size-70) {
			s := anyText(r, n)
			need := len(rowOf(size, s))
			for _, at := range []int{0, 1, 25 - need - 1, 25 - need} {
				d := anyDisk(r, 25, size, r.Intn(4))
				wiped := wantWiped(t, waiting(d, at, rowOf(size, s)), at, s)
				wantAt(t, "wiped", wiped, at, wipedRecordOf(size, at, s))
				wantWiped(t, onto(api.Disk{Size: size, Kept: d.Kept}, at, rowOf(size, s)), at, s)
				wantDisk(t, "wiped twice", wantWiped(t, wiped, at, s), wiped)
			}
			wantWiped(t, onto(empty(t, need, size), 0, rowOf(size, s)), 0, s)
		}
	}
}

// P11.3: Wipe of the longest text, on a disk of one sector, and in the last one of the greatest.
func TestWipeTheEdges(t *testing.T) {
	r := rand.New(rand.NewSource(22))
	for size, need := range map[int]int{96: 684, 1024: 65} {
		s := anyText(r, 65536)
		wantWiped(t, onto(empty(t, need, size), 0, rowOf(size, s)), 0, s)
		wantWiped(t, onto(anyDisk(r, need+7, size, 0), 4, rowOf(size, s)), 4, s)
		for _, n := range []int{0, 1, size - 69} {
			s := anyText(r, n)
			wantWiped(t, onto(empty(t, 1, size), 0, rowOf(size, s)), 0, s)
			wantWiped(t, onto(empty(t, 4096, size), 4095, rowOf(size, s)), 4095, s)
		}
	}
}

// P11.3: Wipe ends what a wipe began that only wrote its first byte; bytes behind the text go, too.
func TestWipeOfLeftBytes(t *testing.T) {
	s := strings.Repeat("secret", 40)
	d := onto(empty(t, 6, 96), 1, rowOf(96, s))
	wantWiped(t, with(d, 1, 0, 0xa1^0xa2), 1, s)
	wantWiped(t, with(d, 4, 95, 0xff), 1, s)
	behind := with(onto(empty(t, 6, 96), 1, rowOf(96, "abc")), 1, 95, 0xff)
	wantWiped(t, behind, 1, "abc")
	wantWiped(t, with(with(behind, 1, 0, 0xa1^0xa2), 1, 70, 0x77), 1, "abc")
}

// P11.3, R1, R2: Wipe where there is no record, or no power: the disk stays, its writes too.
func TestWipeRefused(t *testing.T) {
	r := rand.New(rand.NewSource(23))
	for _, many := range []int{1, 2, 5, 40} {
		record := waiting(empty(t, many, 96), 0, rowOf(96, anyText(r, many*96-69)))
		for _, d := range []api.Disk{empty(t, many, 96), anyDisk(r, many, 96, 3), record} {
			off := disk.Cut(d)
			for _, at := range append(noSectors(many), 0, many/2, many-1) {
				got, e := store.Wipe(off, at)
				wantDisk(t, "without power", got, off)
				if e != api.ErrDead {
					t.Errorf("at %d of %d, without power: %d", at, many, e)
				}
				if _, is := atOf(disk.Image(d), 96, at); is {
					continue
				}
				got, e = store.Wipe(d, at)
				wantDisk(t, "no record", got, d)
				if e != api.ErrNone {
					t.Errorf("at %d of %d: %d", at, many, e)
				}
			}
		}
	}
}

// P11.3: Wipe of a record that isn't whole: ErrNone, and not a byte of it is written.
func TestWipeOfBrokenRecords(t *testing.T) {
	s := strings.Repeat("a", 100)
	d := onto(empty(t, 4, 96), 1, rowOf(96, s))
	broken := map[string]api.Disk{
		"its first byte":   with(d, 1, 0, 0xff),
		"its length":       with(d, 1, 4, 1),
		"its hash":         with(d, 1, 20, 1),
		"its sum":          with(d, 1, 68, 1),
		"its text":         with(d, 1, 69, 1),
		"its text's end":   with(d, 2, 72, 1),
		"behind the disk":  {Size: 96, Kept: d.Kept[:2]},
		"a length too big": onto(d, 1, cutOf(96, headWith(0xa2, 65537, hashOf(s)))),
	}
	for what, d := range broken {
		got, e := store.Wipe(d, 1)
		wantDisk(t, what, got, d)
		if e != api.ErrNone {
			t.Errorf("%s: %d", what, e)
		}
	}
}

// P11.3: Clean from each sector on, from below 0 and from behind the disk: what is ahead stays, as it is read.
func TestClean(t *testing.T) {
	r := rand.New(rand.NewSource(24))
	for _, many := range []int{1, 2, 5, 12} {
		for _, size := range []int{96, 1024} {
			for _, writes := range []int{0, 1, 9} {
				d := anyDisk(r, many, size, writes)
				for from := range many + 1 {
					wantCleaned(t, d, from, from)
				}
				for _, from := range noSectors(many) {
					wantCleaned(t, d, from, min(max(from, 0), many))
				}
			}
		}
	}
	d := anyDisk(r, 4096, 96, 9)
	for _, from := range []int{-5, 0, 2000, 4095, 4096, 5000} {
		wantCleaned(t, d, from, min(max(from, 0), 4096))
	}
}

// wantCleaned fails the test, unless Clean leaves so many sectors, and all behind are of bytes of 0.
func wantCleaned(t *testing.T, d api.Disk, from, left int) {
	t.Helper()
	image := disk.Image(d)
	noughts := slices.Repeat([]string{strings.Repeat("\x00", d.Size)}, len(image)-left)
	got, e := store.Clean(d, from)
	wantDisk(t, "cleaned", got, api.Disk{Size: d.Size, Kept: slices.Concat(image[:left], noughts)})
	if e != api.OK || !disk.Right(got) {
		t.Errorf("from %d of %s: %d", from, toldOf(d), e)
	}
}

// P11.3, R2: Clean without power: ErrDead, the disk stays, its writes too.
func TestCleanWithoutPower(t *testing.T) {
	r := rand.New(rand.NewSource(25))
	for _, many := range []int{1, 5} {
		d := disk.Cut(anyDisk(r, many, 96, 3))
		for _, from := range append(noSectors(many), 0, many/2, many-1) {
			got, e := store.Clean(d, from)
			wantDisk(t, "without power", got, d)
			if e != api.ErrDead {
				t.Errorf("from %d of %d: %d", from, many, e)
			}
		}
	}
}
