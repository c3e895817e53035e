package store_test

import (
	"math"
	"math/rand"
	"slices"
	"strings"
	"testing"

	"tabulary/api"
	"tabulary/disk"
	"tabulary/store"
)

// putAll puts texts one behind the other, and tells the disk and where each one is.
func putAll(t *testing.T, d api.Disk, texts []string) (api.Disk, []int) {
	t.Helper()
	at, places := 0, []int(nil)
	for _, s := range texts {
		d = wantPut(t, d, at, s)
		places = append(places, at)
		at += len(rowOf(d.Size, s))
	}
	return d, places
}

// P11.4: what was put is loaded, behind all records that were there, and nothing behind it, till the disk is full.
func TestWhatIsPutIsLoaded(t *testing.T) {
	r := rand.New(rand.NewSource(31))
	for _, size := range []int{96, 300, 1024} {
		d := empty(t, 60, size)
		var texts []string
		var wiped []int
		for {
			s := anyText(r, []int{0, 1, size - 69, size - 68, r.Intn(6 * size)}[r.Intn(5)])
			before, end, e := store.Load(d)
			if e != api.OK {
				t.Fatal(e)
			}
			next, put, e := store.Put(d, end, s)
			if e == api.ErrFull && end+len(rowOf(size, s)) > 60 {
				break
			}
			if e != api.OK {
				t.Fatal(e)
			}
			after, newEnd, e := store.Load(next)
			wantLoaded(t, "put", after, newEnd, e, append(before, put), end+put.Many)
			d, texts = next, append(texts, s)
			if r.Intn(3) == 0 {
				d, e = store.Wipe(d, end)
				wiped = append(wiped, len(texts)-1)
			}
			if e != api.OK {
				t.Fatal(e)
			}
			wantAll(t, "all", d, texts, wiped...)
		}
	}
}

// P11.4: the first record wiped, one in the midst, the last: its hash is told, all others are as they were.
func TestWipedAmongOthers(t *testing.T) {
	r := rand.New(rand.NewSource(32))
	texts := []string{anyText(r, 27), anyText(r, 500), "", anyText(r, 28), anyText(r, 96), anyText(r, 1)}
	for _, synced := range []bool{false, true} {
		d, places := putAll(t, empty(t, 20, 96), texts)
		if synced {
			d, _ = disk.Sync(d)
		}
		wantAll(t, "all", d, texts)
		for _, which := range [][]int{{0}, {1}, {2}, {5}, {0, 5}, {1, 3}, {3, 1, 4}, {0, 1, 2, 3, 4, 5}, {5, 4, 3, 2, 1, 0}} {
			got := d
			for _, i := range which {
				got = wantWiped(t, got, places[i], texts[i])
			}
			wantAll(t, "some wiped", got, texts, which...)
			more := wantPut(t, got, 13, "more")
			wantAll(t, "one more", more, append(slices.Clone(texts), "more"), which...)
		}
	}
}

// P11.4: of a wiped record no byte is left, neither on the disk nor among the writes, whatever a crash keeps.
func TestNoByteIsLeft(t *testing.T) {
	r := rand.New(rand.NewSource(33))
	for _, n := range []int{10, 27, 28, 200, 1000} {
		secret := strings.Repeat("S", n)
		d, places := putAll(t, empty(t, 40, 96), []string{"one", secret, "two"})
		if r.Intn(2) == 0 {
			d, _ = disk.Sync(d)
		}
		got, e := store.Wipe(d, places[1])
		if e != api.OK || len(got.W) != 0 {
			t.Fatalf("%d bytes: %d, %d writes", n, e, len(got.W))
		}
		for _, d := range []api.Disk{got, disk.Crash(got, nil), disk.Crash(got, []int{1, 96, 5})} {
			for at, s := range append(disk.Image(d), d.Kept...) {
				if strings.Contains(s, "SSSSSSS") {
					t.Errorf("%d bytes: left in sector %d: %x", n, at%40, s)
				}
			}
			wantAll(t, "all", d, []string{"one", secret, "two"}, 1)
		}
	}
}

// keeps are what a crash may keep of so many writes: none, the first ones whole, one cut anywhere, one lost, any.
func keeps(r *rand.Rand, size int, writes []string) [][]int {
	out := [][]int{nil, {}, slices.Repeat([]int{math.MaxInt}, len(writes))}
	for i := range writes {
		whole := slices.Repeat([]int{size}, i)
		for _, n := range []int{0, 1, 4, 5, 36, 37, 68, 69, 70, size / 2, size - 1, size, size + 1, -1, r.Intn(size)} {
			out = append(out, append(slices.Clone(whole), n))
			lost := slices.Repeat([]int{size}, len(writes))
			lost[i] = n
			out = append(out, lost)
		}
	}
	for range 20 {
		var any []int
		for range writes {
			any = append(any, r.Intn(size+2))
		}
		out = append(out, any)
	}
	return out
}

// P11.4: what a crash leaves of a record that wasn't synced is nothing, or all; what was synced ahead of it is there.
func TestCrashLeavesNothingOrAll(t *testing.T) {
	r := rand.New(rand.NewSource(34))
	for _, size := range []int{96, 200, 1024} {
		for _, n := range []int{0, 1, size - 69, size - 68, 2*size - 69, 3 * size} {
			for _, under := range []api.Disk{empty(t, 12, size), anyDisk(r, 12, size, 0)} {
				for _, s := range []string{anyText(r, n), strings.Repeat("\x00", n), strings.Repeat("\xa1", n)} {
					d := onto(under, 0, slices.Concat(rowOf(size, "one"), wipedOf(size, "two")))
					wantCrashes(t, r, wantPut(t, d, 2, s), s)
				}
			}
		}
	}
}

// wantCrashes fails the test, unless each crash leaves two records and nothing, or all, of a third one at sector 2.
func wantCrashes(t *testing.T, r *rand.Rand, d api.Disk, s string) {
	t.Helper()
	row := headOf(s, false) + s
	for _, keep := range keeps(r, d.Size, rowOf(d.Size, s)) {
		left := disk.Crash(d, keep)
		texts := []string{"one", "two"}
		if strings.HasPrefix(strings.Join(left.Kept[2:], ""), row) {
			texts = append(texts, s)
			wantAt(t, "all", left, 2, recordOf(d.Size, 2, s))
		} else {
			wantNoneAt(t, "nothing", left, 2)
		}
		wantAll(t, "behind a crash", left, texts, 1)
	}
}

// P11.4: by hand: of two sectors both have to be kept, the second one just as far as the text goes.
func TestCrashByHand(t *testing.T) {
	s := strings.Repeat("a", 40)
	d := wantPut(t, empty(t, 8, 96), 0, s)
	for _, x := range []struct {
		keep []int
		many int
	}{
		{nil, 0}, {[]int{96}, 0}, {[]int{0, 96}, 0}, {[]int{96, 12}, 0}, {[]int{96, 13}, 1}, {[]int{96, 96}, 1},
		{[]int{95, 96}, 0}, {[]int{69, 96}, 0}, {[]int{68, 96}, 0}, {[]int{1, 13}, 0}, {[]int{97, 97}, 1}, {[]int{-1, 13}, 0},
	} {
		left := disk.Crash(d, x.keep)
		l, end, e := store.Load(left)
		if len(l) != x.many || end != 2*x.many || e != api.OK {
			t.Errorf("%v: %d records to %d, %d", x.keep, len(l), end, e)
		}
	}
}

// P11.4: a disk that is played, with crashes, held against records that are looked for by the library's hash.
func TestPlays(t *testing.T) {
	r := rand.New(rand.NewSource(35))
	for range 30 {
		size := []int{96, 150, 1024}[r.Intn(3)]
		d := empty(t, 10+r.Intn(20), size)
		for range 40 {
			d = played(t, r, d)
			want, end := loadOf(disk.Image(d), size)
			got, gotEnd, e := store.Load(d)
			wantLoaded(t, "played", got, gotEnd, e, want, end)
		}
	}
}

// played is a disk behind an act: a text is put, a record wiped, the disk synced, cleaned, or left by a crash.
func played(t *testing.T, r *rand.Rand, d api.Disk) api.Disk {
	t.Helper()
	l, end, _ := store.Load(d)
	e := api.OK
	switch r.Intn(8) {
	case 0:
		d, e = disk.Sync(d)
	case 1:
		var keep []int
		for range d.W {
			keep = append(keep, r.Intn(3)*d.Size/2)
		}
		d, e = store.Clean(disk.Crash(d, keep), end)
	case 2:
		d, e = store.Clean(d, r.Intn(len(d.Kept)+2))
	case 3:
		if len(l) > 0 {
			d, e = store.Wipe(d, l[r.Intn(len(l))].At)
		}
	default:
		s := anyText(r, r.Intn(3*d.Size))
		if end+len(rowOf(d.Size, s)) <= len(d.Kept) {
			d, _, e = store.Put(d, end, s)
		}
	}
	if e != api.OK {
		t.Fatal(e)
	}
	return d
}

// calls are all calls that answer a disk, each with its answer: ones that are refused, too.
func calls() map[string]func(d api.Disk) api.Disk {
	return map[string]func(d api.Disk) api.Disk{
		"Put":             func(d api.Disk) api.Disk { d, _, _ = store.Put(d, 2, "abc"); return d },
		"Put of too much": func(d api.Disk) api.Disk { d, _, _ = store.Put(d, 0, strings.Repeat("a", 65537)); return d },
		"Put nowhere":     func(d api.Disk) api.Disk { d, _, _ = store.Put(d, -1, "abc"); return d },
		"Wipe":            func(d api.Disk) api.Disk { d, _ = store.Wipe(d, 0); return d },
		"Wipe nowhere":    func(d api.Disk) api.Disk { d, _ = store.Wipe(d, 1); return d },
		"Clean":           func(d api.Disk) api.Disk { d, _ = store.Clean(d, 2); return d },
		"Clean all":       func(d api.Disk) api.Disk { d, _ = store.Clean(d, -1); return d },
		"Clean none":      func(d api.Disk) api.Disk { d, _ = store.Clean(d, 4); return d },
		"Load":            func(d api.Disk) api.Disk { store.Load(d); return api.Disk{} },
		"At":              func(d api.Disk) api.Disk { store.At(d, 0); return api.Disk{} },
	}
}

// R3: no disk that is handed in is changed, nor what lies behind its lists; no answer changes with it later, nor it with the answer.
func TestHandedInIsLeftAlone(t *testing.T) {
	r := rand.New(rand.NewSource(36))
	for _, writes := range []int{0, 1, 5} {
		for _, off := range []bool{false, true} {
			whole := waiting(onto(anyDisk(r, 9, 96, 0), 0, rowOf(96, strings.Repeat("a", 28))), 3, slices.Repeat([]string{"abc"}, writes+3))
			d := whole
			d.Kept, d.W, d.Off = whole.Kept[:4], whole.W[:writes], off
			for i := range d.W {
				d.W[i].At = i%2 + 2
			}
			for name, call := range calls() {
				was := copyOf(whole)
				answer := call(d)
				again := call(d)
				if !sameOf(whole, was) || !sameOf(again, answer) {
					t.Fatalf("%s changed what was handed in, or answers something else the second time", name)
				}
				spoil(again)
				if !sameOf(whole, was) {
					t.Fatalf("%s: what was handed in changes with the answer", name)
				}
				stays := copyOf(answer)
				spoil(whole)
				if !sameOf(answer, stays) {
					t.Errorf("%s: the answer changes with what was handed in", name)
				}
				copy(whole.Kept, was.Kept)
				copy(whole.W, was.W)
			}
		}
	}
}

// The document's example.
func TestExample(t *testing.T) {
	if a, b := store.Need(96, 27), store.Need(96, 28); a != 1 || b != 2 {
		t.Error(a, b)
	}
}
