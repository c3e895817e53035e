package disk_test

import (
	"math"
	"math/rand"
	"slices"
	"strings"
	"testing"

	"tabulary/api"
	"tabulary/disk"
)

// P10.2: Write to the first sector, the last one, and those between, of 1 byte to just Size.
func TestWrite(t *testing.T) {
	r := rand.New(rand.NewSource(6))
	for _, d := range anyDisks(r) {
		d.Off = false
		many := len(d.Kept)
		for _, at := range []int{0, many / 2, many - 1} {
			for _, long := range []int{1, 2, d.Size / 2, d.Size - 1, d.Size} {
				s := anyText(r, long)
				want := copyOf(d)
				want.W = append(want.W, api.Write{At: at, S: s})
				got, e := disk.Write(d, at, s)
				wantDisk(t, "written", got, want)
				if e != api.OK || !disk.Right(got) {
					t.Errorf("%d bytes to %d of %d: %d", long, at, many, e)
				}
			}
		}
	}
}

// P10.2, R1, R2: what Write refuses, and which error goes first; the disk stays.
func TestWriteRefused(t *testing.T) {
	for _, d := range anyDisks(rand.New(rand.NewSource(7))) {
		many := len(d.Kept)
		short, full, long := "a", strings.Repeat("a", d.Size), strings.Repeat("a", d.Size+1)
		far := strings.Repeat("a", 3*d.Size+1)
		for _, d.Off = range []bool{false, true} {
			want := func(e api.Errno, at int, s string) {
				if d.Off {
					e = api.ErrDead
				}
				got, bad := disk.Write(d, at, s)
				wantDisk(t, "refused", got, d)
				if bad != e {
					t.Errorf("%d bytes to %d of %d of %d: %d, not %d", len(s), at, many, d.Size, bad, e)
				}
			}
			for _, at := range noSectors(many) {
				for _, s := range []string{short, full, long, far, ""} {
					want(api.ErrNone, at, s)
				}
			}
			for _, at := range []int{0, many / 2, many - 1} {
				for _, s := range []string{"", long, far} {
					want(api.ErrArg, at, s)
				}
				if d.Off {
					want(api.ErrDead, at, short)
					want(api.ErrDead, at, full)
				}
			}
		}
	}
}

// P10.2: Sync keeps the image, and leaves no writes.
func TestSync(t *testing.T) {
	for _, d := range anyDisks(rand.New(rand.NewSource(8))) {
		d.Off = false
		want := api.Disk{Size: d.Size, Kept: imageOf(d)}
		got, e := disk.Sync(d)
		wantDisk(t, "synced", got, want)
		again, e2 := disk.Sync(got)
		wantDisk(t, "synced twice", again, want)
		if e != api.OK || e2 != api.OK || !disk.Right(got) {
			t.Errorf("%d sectors of %d, %d writes: %d, %d", len(d.Kept), d.Size, len(d.W), e, e2)
		}
	}
}

// P10.2, R2: Sync without power: the disk stays, its writes too.
func TestSyncWithoutPower(t *testing.T) {
	for _, d := range anyDisks(rand.New(rand.NewSource(9))) {
		d.Off = true
		got, e := disk.Sync(d)
		wantDisk(t, "without power", got, d)
		if e != api.ErrDead {
			t.Errorf("%d writes: %d", len(d.W), e)
		}
	}
}

// P10.2: Crash by hand.
func TestCrashByHand(t *testing.T) {
	a, b := strings.Repeat("a", 96), strings.Repeat("b", 96)
	full := strings.Repeat("z", 96)
	to := func(at int, s string) api.Write { return api.Write{At: at, S: s} }
	for _, x := range []struct {
		w           []api.Write
		keep        []int
		first, last string
	}{
		{nil, nil, a, b},
		{nil, []int{}, a, b},
		{nil, []int{1, 96, 97}, a, b},
		{[]api.Write{to(0, "123")}, nil, a, b},
		{[]api.Write{to(0, "123")}, []int{}, a, b},
		{[]api.Write{to(0, "123")}, []int{0}, a, b},
		{[]api.Write{to(0, "123")}, []int{-1}, a, b},
		{[]api.Write{to(0, "123")}, []int{math.MinInt}, a, b},
		{[]api.Write{to(0, "123")}, []int{1}, "1" + a[1:], b},
		{[]api.Write{to(0, "123")}, []int{2}, "12" + a[2:], b},
		{[]api.Write{to(0, "123")}, []int{3}, "123" + a[3:], b},
		{[]api.Write{to(0, "123")}, []int{4}, "123" + a[3:], b},
		{[]api.Write{to(0, "123")}, []int{96, 2, 3}, "123" + a[3:], b},
		{[]api.Write{to(0, "123")}, []int{math.MaxInt}, "123" + a[3:], b},
		{[]api.Write{to(0, full)}, []int{95}, full[1:] + "a", b},
		{[]api.Write{to(0, full)}, []int{96}, full, b},
		{[]api.Write{to(1, full)}, []int{97}, a, full},
		{[]api.Write{to(0, "123"), to(1, "456")}, []int{0, 2}, a, "45" + b[2:]},
		{[]api.Write{to(0, "123"), to(1, "456")}, []int{-5, 99}, a, "456" + b[3:]},
		{[]api.Write{to(0, "123"), to(1, "456")}, []int{2}, "12" + a[2:], b},
		// Several to one sector: the later one is done behind the earlier one, as far as it is kept.
		{[]api.Write{to(0, "1234"), to(0, "56")}, []int{4, 2}, "5634" + a[4:], b},
		{[]api.Write{to(0, "1234"), to(0, "56")}, []int{4, 1}, "5234" + a[4:], b},
		{[]api.Write{to(0, "1234"), to(0, "56")}, []int{1, 2}, "56" + a[2:], b},
		{[]api.Write{to(0, "1234"), to(0, "56")}, []int{4, 0}, "1234" + a[4:], b},
		{[]api.Write{to(0, "1234"), to(0, "56")}, []int{0, 9}, "56" + a[2:], b},
		{[]api.Write{to(0, "56"), to(0, "1234")}, []int{2, 3}, "123" + a[3:], b},
		{[]api.Write{to(0, "56"), to(0, "1234")}, []int{2, 1}, "16" + a[2:], b},
		{[]api.Write{to(1, "12"), to(0, "3"), to(1, "4")}, []int{2, 0, 1}, a, "42" + b[2:]},
	} {
		for _, off := range []bool{false, true} {
			d := api.Disk{Size: 96, Kept: []string{a, b}, W: x.w, Off: off}
			want := api.Disk{Size: 96, Kept: []string{x.first, x.last}}
			got := disk.Crash(d, x.keep)
			if !sameOf(got, want) || !disk.Right(got) {
				t.Errorf("%v, %v: %s", x.w, x.keep, toldOf(got))
			}
		}
	}
}

// P10.2: Crash of any disks, with anything kept.
func TestCrash(t *testing.T) {
	r := rand.New(rand.NewSource(10))
	for _, d := range anyDisks(r) {
		keeps := [][]int{nil, {}, make([]int, len(d.W)), slices.Repeat([]int{d.Size}, len(d.W)), slices.Repeat([]int{1}, len(d.W)+5)}
		for range 3 {
			keeps = append(keeps, anyKeep(r, d))
		}
		for _, keep := range keeps {
			got := disk.Crash(d, keep)
			wantDisk(t, "crashed", got, crashOf(d, keep))
			if got.Off || len(got.W) != 0 || !disk.Right(got) {
				t.Errorf("%d writes, %d told: %s", len(d.W), len(keep), toldOf(got))
			}
		}
	}
}

// P10.2: what is kept of all writes is what Sync keeps; what is kept of none is what stood there.
func TestCrashThatKeepsAllOrNothing(t *testing.T) {
	for _, d := range anyDisks(rand.New(rand.NewSource(11))) {
		d.Off = false
		var just []int
		for _, w := range d.W {
			just = append(just, len(w.S))
		}
		synced, _ := disk.Sync(d)
		for _, d.Off = range []bool{false, true} {
			wantDisk(t, "just as many bytes", disk.Crash(d, just), synced)
			wantDisk(t, "more bytes", disk.Crash(d, slices.Repeat([]int{math.MaxInt}, len(d.W)+1)), synced)
			stood := api.Disk{Size: d.Size, Kept: d.Kept}
			wantDisk(t, "none", disk.Crash(d, nil), stood)
			wantDisk(t, "below 1", disk.Crash(d, slices.Repeat([]int{-1, 0}, len(d.W))), stood)
		}
	}
}

// The document's example: of hi nothing is left, or h.
func TestExample(t *testing.T) {
	d, _ := disk.New(1, 96)
	d, e := disk.Write(d, 0, "hi")
	if e != api.OK {
		t.Fatal(e)
	}
	for want, keep := range map[string][]int{noughts(96): nil, "h" + noughts(95): {1}} {
		if s, e := disk.Read(disk.Crash(d, keep), 0); e != api.OK || s != want {
			t.Errorf("%v: %q, %d", keep, s, e)
		}
	}
}
