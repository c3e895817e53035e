package disk_test

import (
	"math"
	"math/rand"
	"slices"
	"strings"
	"testing"

	"tabulary/api"
	"tabulary/disk"
)

// P10.3: what was written is read, till it is written over; all other sectors are as they were.
func TestWhatIsWrittenIsRead(t *testing.T) {
	r := rand.New(rand.NewSource(12))
	for _, shape := range [][2]int{{1, 96}, {2, 1024}, {7, 96}, {7, 1024}, {30, 200}} {
		many, size := shape[0], shape[1]
		d, _ := disk.New(many, size)
		read := slices.Repeat([]string{noughts(size)}, many)
		for i := range 300 {
			at := []int{0, many - 1, r.Intn(many)}[r.Intn(3)]
			s := anyText(r, anyLength(r, size))
			next, e := disk.Write(d, at, s)
			if e != api.OK {
				t.Fatal(e)
			}
			read[at] = s + read[at][len(s):]
			d = next
			if r.Intn(20) == 0 {
				d, e = disk.Sync(d)
			}
			if e != api.OK || !slices.Equal(disk.Image(d), read) {
				t.Fatalf("%d of %d: another image behind write %d: %d", many, size, i, e)
			}
			for at, want := range read {
				if s, e := disk.Read(d, at); e != api.OK || s != want {
					t.Fatalf("%d of %d: sector %d behind write %d: %d", many, size, at, i, e)
				}
			}
		}
	}
}

// P10.3: what was synced is there behind each crash, where nothing is written over it.
func TestWhatIsSyncedStays(t *testing.T) {
	r := rand.New(rand.NewSource(13))
	for range 200 {
		d := anyDisk(r, 1+r.Intn(12), 96+r.Intn(929), r.Intn(30))
		d.Off = false
		synced, e := disk.Sync(d)
		if e != api.OK {
			t.Fatal(e)
		}
		d = synced
		reach := make([]int, len(d.Kept))
		for range r.Intn(6) {
			at, s := r.Intn(len(d.Kept)), anyText(r, anyLength(r, d.Size))
			reach[at] = max(reach[at], len(s))
			d, _ = disk.Write(d, at, s)
		}
		if r.Intn(2) == 0 {
			d = disk.Cut(d)
		}
		for range 3 {
			d = disk.Crash(d, anyKeep(r, d))
			for at, s := range d.Kept {
				if read, e := disk.Read(d, at); e != api.OK || read != s || s[reach[at]:] != synced.Kept[at][reach[at]:] {
					t.Fatalf("sector %d isn't what was synced: %d", at, e)
				}
			}
		}
	}
}

// P10.3: a disk that is played, with crashes, held against sectors of bytes that are written one by one.
func TestPlays(t *testing.T) {
	r := rand.New(rand.NewSource(14))
	for range 40 {
		many, size := 1+r.Intn(6), 96+r.Intn(929)
		d, _ := disk.New(many, size)
		want := copyOf(d)
		for range 60 {
			switch r.Intn(6) {
			case 0:
				next, e := disk.Sync(d)
				if want.Off != (e == api.ErrDead) {
					t.Fatalf("a sync: %d", e)
				}
				d = next
				if e == api.OK {
					want = api.Disk{Size: size, Kept: imageOf(want)}
				}
			case 1:
				keep := anyKeep(r, d)
				d, want = disk.Crash(d, keep), crashOf(want, keep)
			case 2:
				d, want.Off = disk.Cut(d), true
			default:
				at, s := r.Intn(many), anyText(r, anyLength(r, size))
				next, e := disk.Write(d, at, s)
				if want.Off != (e == api.ErrDead) {
					t.Fatalf("a write: %d", e)
				}
				d = next
				if e == api.OK {
					want.W = append(slices.Clone(want.W), api.Write{At: at, S: s})
				}
			}
			if !sameOf(d, want) || !disk.Right(d) || !slices.Equal(disk.Image(d), imageOf(want)) {
				t.Fatalf("%s, not %s", toldOf(d), toldOf(want))
			}
		}
	}
}

// P10.2, R3: two disks that go on from one each have their own writes.
func TestTwoThatGoOnFromOne(t *testing.T) {
	d, _ := disk.New(2, 96)
	for i := range 40 {
		one, _ := disk.Write(d, 0, "one")
		two, _ := disk.Write(d, 1, "two")
		if len(d.W) != i || one.W[i] != (api.Write{At: 0, S: "one"}) || two.W[i] != (api.Write{At: 1, S: "two"}) {
			t.Fatalf("%d: %v, %v", i, one.W, two.W)
		}
		d = []api.Disk{one, two}[i%2]
	}
}

// calls are all calls that answer a disk or sectors, each with what it answers: ones that are refused, too.
func calls(keep []int) map[string]func(d api.Disk) api.Disk {
	return map[string]func(d api.Disk) api.Disk{
		"Write":                 func(d api.Disk) api.Disk { d, _ = disk.Write(d, 0, "abc"); return d },
		"Write to no sector":    func(d api.Disk) api.Disk { d, _ = disk.Write(d, -1, "abc"); return d },
		"Write of nothing":      func(d api.Disk) api.Disk { d, _ = disk.Write(d, 0, ""); return d },
		"Write of too much":     func(d api.Disk) api.Disk { d, _ = disk.Write(d, 0, noughts(1025)); return d },
		"Sync":                  func(d api.Disk) api.Disk { d, _ = disk.Sync(d); return d },
		"Crash":                 func(d api.Disk) api.Disk { return disk.Crash(d, keep) },
		"Crash that keeps none": func(d api.Disk) api.Disk { return disk.Crash(d, nil) },
		"Image":                 func(d api.Disk) api.Disk { return api.Disk{Kept: disk.Image(d)} },
		"Cut":                   func(d api.Disk) api.Disk { return disk.Cut(d) },
		"Read":                  func(d api.Disk) api.Disk { s, _ := disk.Read(d, 0); return api.Disk{Kept: []string{s}} },
		"Right":                 func(d api.Disk) api.Disk { return api.Disk{Off: disk.Right(d)} },
	}
}

// P10.1, P10.2, R3: neither a disk nor a keep that is handed in is changed, nor what lies behind; no answer changes with them later, nor they with it.
func TestHandedInIsLeftAlone(t *testing.T) {
	r := rand.New(rand.NewSource(15))
	for _, writes := range []int{0, 1, 5} {
		for range 8 {
			whole := anyDisk(r, 9, 100, writes+3)
			allKeep := slices.Concat(anyKeep(r, whole), []int{5, 6, 7})
			d, keep := whole, allKeep[:len(allKeep)-2]
			d.Kept, d.W = whole.Kept[:4], whole.W[:writes]
			for i := range d.W {
				d.W[i].At %= 4
			}
			for name, call := range calls(keep) {
				was, wasKeep := copyOf(whole), slices.Clone(allKeep)
				answer := call(d)
				if !sameOf(whole, was) || !slices.Equal(allKeep, wasKeep) {
					t.Fatalf("%s changed what was handed in", name)
				}
				if again := call(d); !sameOf(again, answer) {
					t.Errorf("%s answers something else the second time", name)
				} else {
					spoil(again)
				}
				if !sameOf(whole, was) {
					t.Fatalf("%s: what was handed in changes with the answer", name)
				}
				stays := copyOf(answer)
				spoil(whole)
				for i := range allKeep {
					allKeep[i] = 77
				}
				if !sameOf(answer, stays) {
					t.Errorf("%s: the answer changes with what was handed in", name)
				}
				copy(whole.Kept, was.Kept)
				copy(whole.W, was.W)
				copy(allKeep, wasKeep)
			}
		}
	}
}

// R1: of disks that aren't right the chapter doesn't speak; no call panics.
func TestWrongDisksPanicNowhere(t *testing.T) {
	for name, d := range wrongDisks() {
		was := copyOf(d)
		for _, at := range []int{0, 1, 2, 3, -1, math.MinInt, math.MaxInt} {
			disk.Read(d, at)
			for _, s := range []string{"", "a", noughts(96), strings.Repeat("a", 5000)} {
				disk.Write(d, at, s)
			}
		}
		for _, keep := range [][]int{nil, {1}, {-1, 0, 1}, slices.Repeat([]int{math.MaxInt}, 9)} {
			disk.Crash(d, keep)
		}
		disk.Sync(d)
		disk.Image(d)
		disk.Cut(d)
		if !sameOf(d, was) {
			t.Errorf("%s: it was changed", name)
		}
	}
}
