package disk_test

import (
	"math"
	"math/rand"
	"slices"
	"strings"
	"testing"

	"tabulary/api"
	"tabulary/disk"
)

// P10.1: New, of all edges.
func TestNew(t *testing.T) {
	for _, many := range rightMany {
		for _, size := range rightSizes {
			d, e := disk.New(many, size)
			if e != api.OK || d.Size != size || len(d.Kept) != many || len(d.W) != 0 || d.Off || !disk.Right(d) {
				t.Fatalf("%d of %d: %d, %s", many, size, e, toldOf(d))
			}
			empty := noughts(size)
			for at, s := range d.Kept {
				if s != empty {
					t.Fatalf("%d of %d: sector %d is %q", many, size, at, s)
				}
			}
			for _, at := range []int{0, many / 2, many - 1} {
				if s, e := disk.Read(d, at); e != api.OK || s != empty {
					t.Errorf("%d of %d: sector %d reads %q, %d", many, size, at, s, e)
				}
			}
		}
	}
	for size := 96; size <= 1024; size++ {
		if d, e := disk.New(1, size); e != api.OK || !disk.Right(d) || len(d.Kept[0]) != size {
			t.Errorf("size %d: %d", size, e)
		}
	}
}

// P10.1, R2: New of what may not be: nothing else is answered.
func TestNewOfWrongNumbers(t *testing.T) {
	want := func(many, size int) {
		if d, e := disk.New(many, size); e != api.ErrArg || !isNone(d) {
			t.Errorf("%d of %d: %d, %s", many, size, e, toldOf(d))
		}
	}
	for _, many := range wrongMany {
		for _, size := range slices.Concat(rightSizes, wrongSizes) {
			want(many, size)
		}
	}
	for _, size := range wrongSizes {
		for _, many := range rightMany {
			want(many, size)
		}
	}
}

// P10.1: Right, of right disks.
func TestRight(t *testing.T) {
	for i, d := range anyDisks(rand.New(rand.NewSource(1))) {
		for _, d.Off = range []bool{false, true} {
			if !disk.Right(d) {
				t.Errorf("%d: %d sectors of %d, %d writes", i, len(d.Kept), d.Size, len(d.W))
			}
		}
	}
	for _, many := range rightMany {
		for _, size := range rightSizes {
			d := api.Disk{Size: size, Kept: slices.Repeat([]string{strings.Repeat("\xff", size)}, many)}
			for _, at := range []int{0, many - 1} {
				for _, long := range []int{1, size - 1, size} {
					d.W = append(d.W, api.Write{At: at, S: noughts(long)})
				}
			}
			if !disk.Right(d) {
				t.Errorf("%d sectors of %d", many, size)
			}
		}
	}
}

// P10.1: Right, of disks that are not.
func TestRightOfWrongDisks(t *testing.T) {
	for name, d := range wrongDisks() {
		if disk.Right(d) {
			t.Error(name)
		}
	}
}

// P10.1: Right sees each sector and each write.
func TestRightSeesAll(t *testing.T) {
	d := anyDisk(rand.New(rand.NewSource(2)), 20, 96, 20)
	for i := range 20 {
		for _, long := range []int{0, 95, 97} {
			x := copyOf(d)
			x.Kept[i] = noughts(long)
			if disk.Right(x) {
				t.Errorf("sector %d has %d bytes", i, long)
			}
		}
		for _, w := range []api.Write{{At: -1, S: "a"}, {At: 20, S: "a"}, {At: 1}, {At: 1, S: noughts(97)}, {At: -1}} {
			x := copyOf(d)
			x.W[i] = w
			if disk.Right(x) {
				t.Errorf("write %d: to %d, %d bytes", i, w.At, len(w.S))
			}
		}
	}
}

// P10.1: Image and Read, of all sectors.
func TestImageAndRead(t *testing.T) {
	for i, d := range anyDisks(rand.New(rand.NewSource(3))) {
		want := imageOf(d)
		if !slices.Equal(disk.Image(d), want) {
			t.Errorf("%d: %d sectors of %d, %d writes: another image", i, len(d.Kept), d.Size, len(d.W))
		}
		d.Off = false
		if !slices.Equal(disk.Image(d), want) {
			t.Errorf("%d: the image hangs on the power", i)
		}
		for at := range d.Kept {
			if s, e := disk.Read(d, at); e != api.OK || s != want[at] {
				t.Errorf("%d: sector %d of %d: %d", i, at, len(d.Kept), e)
			}
		}
	}
}

// P10.1, Words: a write is done where the sector begins; what stands behind stays.
func TestImageByHand(t *testing.T) {
	sector := strings.Repeat("abcdefgh", 12)
	full := strings.Repeat("z", 96)
	for _, x := range []struct {
		w           []api.Write
		first, last string
	}{
		{nil, sector, full},
		{[]api.Write{{At: 0, S: "1"}}, "1" + sector[1:], full},
		{[]api.Write{{At: 2, S: "1"}}, sector, "1" + full[1:]},
		{[]api.Write{{At: 0, S: full}}, full, full},
		{[]api.Write{{At: 0, S: full[1:]}}, full[1:] + "h", full},
		{[]api.Write{{At: 0, S: "\x00\x00"}}, "\x00\x00" + sector[2:], full},
		// A shorter one behind a longer one, and the other way round.
		{[]api.Write{{At: 0, S: "1234"}, {At: 0, S: "56"}}, "5634" + sector[4:], full},
		{[]api.Write{{At: 0, S: "56"}, {At: 0, S: "1234"}}, "1234" + sector[4:], full},
		{[]api.Write{{At: 0, S: full}, {At: 0, S: "1"}, {At: 0, S: "23"}, {At: 0, S: "4"}}, "43" + full[2:], full},
		{[]api.Write{{At: 2, S: "12"}, {At: 0, S: "345"}, {At: 2, S: "6"}, {At: 0, S: "78"}}, "785" + sector[3:], "62" + full[2:]},
		{[]api.Write{{At: 0, S: "1"}, {At: 0, S: "1"}}, "1" + sector[1:], full},
	} {
		d := api.Disk{Size: 96, Kept: []string{sector, sector, full}, W: x.w}
		if got := disk.Image(d); !slices.Equal(got, []string{x.first, sector, x.last}) {
			t.Errorf("%v: %q", x.w, got)
		}
		for at, want := range []string{x.first, sector, x.last} {
			if s, e := disk.Read(d, at); e != api.OK || s != want {
				t.Errorf("%v: sector %d: %q, %d", x.w, at, s, e)
			}
		}
	}
}

// noSectors are places at which a disk of so many sectors has none.
func noSectors(many int) []int {
	return []int{-1, many, -2, many + 1, -many, 2 * many, 1 << 32, -1 << 32, 1<<32 + 1, math.MinInt, math.MaxInt}
}

// P10.1, R1, R2: Read where there is no sector, or no power: ErrDead goes first.
func TestReadRefused(t *testing.T) {
	for _, d := range anyDisks(rand.New(rand.NewSource(4))) {
		many := len(d.Kept)
		for _, at := range noSectors(many) {
			d.Off = false
			if s, e := disk.Read(d, at); e != api.ErrNone || s != "" {
				t.Errorf("%d of %d sectors: %d bytes, %d", at, many, len(s), e)
			}
			d.Off = true
			if s, e := disk.Read(d, at); e != api.ErrDead || s != "" {
				t.Errorf("%d of %d sectors, without power: %d bytes, %d", at, many, len(s), e)
			}
		}
		for _, at := range []int{0, many / 2, many - 1} {
			if s, e := disk.Read(d, at); e != api.ErrDead || s != "" {
				t.Errorf("%d of %d sectors, without power: %d bytes, %d", at, many, len(s), e)
			}
		}
	}
}

// P10.1: Cut takes the power, and nothing else, as often as one likes.
func TestCut(t *testing.T) {
	for _, d := range anyDisks(rand.New(rand.NewSource(5))) {
		want := copyOf(d)
		want.Off = true
		cut := disk.Cut(d)
		wantDisk(t, "cut", cut, want)
		wantDisk(t, "cut twice", disk.Cut(cut), want)
		if !disk.Right(cut) || !slices.Equal(disk.Image(cut), imageOf(d)) {
			t.Error("a disk that was cut is another one")
		}
	}
}
