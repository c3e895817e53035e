package store_test

import (
	"math"
	"math/rand"
	"slices"
	"strings"
	"testing"

	"tabulary/api"
	"tabulary/disk"
	"tabulary/store"
)

// wantAt fails the test, unless At tells that record.
func wantAt(t *testing.T, what string, d api.Disk, at int, want api.Record) {
	t.Helper()
	if got, is, e := store.At(d, at); got != want || !is || e != api.OK {
		t.Errorf("%s: at %d of %s: %+v, %v, %d, not %+v", what, at, toldOf(d), shortOf(got), is, e, shortOf(want))
	}
}

// wantNoneAt fails the test, unless At tells that there is no record.
func wantNoneAt(t *testing.T, what string, d api.Disk, at int) {
	t.Helper()
	if got, is, e := store.At(d, at); got != (api.Record{}) || is || e != api.OK {
		t.Errorf("%s: at %d of %s: %+v, %v, %d", what, at, toldOf(d), shortOf(got), is, e)
	}
}

// P11.2: At of whole records and of wiped ones, at the first sector, in the midst, at the end, synced or not.
func TestAt(t *testing.T) {
	r := rand.New(rand.NewSource(11))
	for _, size := range []int{96, 97, 512, 1024} {
		for _, n := range append(fullTexts(size), 0, 1, size, size-68, 2*size-68, 2*size-70) {
			s := []string{anyText(r, n), strings.Repeat("\x00", n)}[r.Intn(2)]
			d := anyDisk(r, 25, size, 0)
			need := len(rowOf(size, s))
			for _, at := range []int{0, 1, 25 - need - 1, 25 - need} {
				wantAt(t, "synced", onto(d, at, rowOf(size, s)), at, recordOf(size, at, s))
				wantAt(t, "not synced", waiting(d, at, rowOf(size, s)), at, recordOf(size, at, s))
				wantAt(t, "wiped", onto(d, at, wipedOf(size, s)), at, wipedRecordOf(size, at, s))
				wantAt(t, "wiped, not synced", waiting(d, at, wipedOf(size, s)), at, wipedRecordOf(size, at, s))
				marked := waiting(onto(d, at, rowOf(size, s)), at, []string{"\xa2"})
				wantAt(t, "wiped, its text still there", marked, at, wipedRecordOf(size, at, s))
			}
		}
	}
}

// P11.2: At of the longest text, of one sector, and of the last one of the greatest disk.
func TestAtTheEdges(t *testing.T) {
	r := rand.New(rand.NewSource(12))
	for size, need := range map[int]int{96: 684, 1024: 65} {
		s := anyText(r, 65536)
		wantAt(t, "longest", onto(empty(t, need, size), 0, rowOf(size, s)), 0, recordOf(size, 0, s))
		wantAt(t, "longest, wiped", onto(empty(t, need, size), 0, wipedOf(size, s)), 0, wipedRecordOf(size, 0, s))
		wantAt(t, "longest, behind", onto(empty(t, need+5, size), 5, rowOf(size, s)), 5, recordOf(size, 5, s))
		for _, n := range []int{0, 1, size - 69} {
			s := anyText(r, n)
			wantAt(t, "alone", onto(empty(t, 1, size), 0, rowOf(size, s)), 0, recordOf(size, 0, s))
			wantAt(t, "the last one", onto(empty(t, 4096, size), 4095, rowOf(size, s)), 4095, recordOf(size, 4095, s))
		}
	}
}

// P11.2: At where there is no sector, none of a record, or the midst of one.
func TestAtNone(t *testing.T) {
	r := rand.New(rand.NewSource(13))
	for _, many := range []int{1, 2, 5, 40} {
		for _, size := range []int{96, 1024} {
			d := empty(t, many, size)
			full := anyDisk(r, many, size, 3)
			for at := range many {
				wantNoneAt(t, "empty", d, at)
				wantNoneAt(t, "any bytes", full, at)
			}
			record := onto(d, 0, rowOf(size, anyText(r, many*size-69)))
			for _, d := range []api.Disk{d, full, record, onto(d, many-1, rowOf(size, ""))} {
				for _, at := range noSectors(many) {
					wantNoneAt(t, "no sector", d, at)
				}
			}
			for at := range many - 1 {
				wantNoneAt(t, "within one", record, at+1)
			}
		}
	}
}

// P11.2: a text that looks like a record where a sector begins is one there, and none where the record begins is.
func TestAtRecordWithinOne(t *testing.T) {
	inner := strings.Join(rowOf(96, "inner"), "")
	s := strings.Repeat("a", 96-69) + inner
	d := onto(empty(t, 4, 96), 1, rowOf(96, s))
	wantAt(t, "outer", d, 1, recordOf(96, 1, s))
	wantAt(t, "inner", d, 2, recordOf(96, 2, "inner"))
	wantNoneAt(t, "behind", d, 3)
}

// with is a disk on which one byte of a sector is changed.
func with(d api.Disk, at, place int, change byte) api.Disk {
	sector := []byte(d.Kept[at])
	sector[place] ^= change
	return onto(d, at, []string{string(sector)})
}

// P11.2: At of a record one byte of which is another one: none, but for the byte that wipes, and bytes behind the text.
func TestAtChangedByte(t *testing.T) {
	r := rand.New(rand.NewSource(14))
	for _, n := range []int{0, 1, 27, 28, 100, 123, 124} {
		s := anyText(r, n)
		d := onto(empty(t, 6, 96), 1, rowOf(96, s))
		wiped := onto(empty(t, 6, 96), 1, wipedOf(96, s))
		left := with(d, 1, 0, 0xa1^0xa2)
		for place := range len(rowOf(96, s)) * 96 {
			for _, change := range []byte{1, 0x80, 1 + byte(r.Intn(255))} {
				changed := with(d, 1+place/96, place%96, change)
				wantAsReckoned(t, changed, 1)
				wantAsReckoned(t, with(wiped, 1+place/96, place%96, change), 1)
				wantAsReckoned(t, with(left, 1+place/96, place%96, change), 1)
				switch {
				case place < 69 && changed.Kept[1][0] != 0xa2, place >= 69 && place < 69+n:
					wantNoneAt(t, "a byte changed", changed, 1)
				case place >= 69+n:
					wantAt(t, "a byte behind the text changed", changed, 1, recordOf(96, 1, s))
				}
				if place >= 69 {
					wantAt(t, "wiped, a byte of its text changed", with(left, 1+place/96, place%96, change), 1, wipedRecordOf(96, 1, s))
				}
			}
		}
	}
}

// wantAsReckoned fails the test, unless At answers what the oracle does.
func wantAsReckoned(t *testing.T, d api.Disk, at int) {
	t.Helper()
	want, is := atOf(disk.Image(d), d.Size, at)
	if is {
		wantAt(t, "as reckoned", d, at, want)
		return
	}
	wantNoneAt(t, "as reckoned", d, at)
}

// P11.2: all first bytes: just a1 and a2 are those of records.
func TestAtFirstByte(t *testing.T) {
	for _, s := range []string{"", "abc", strings.Repeat("a", 100)} {
		for first := range 256 {
			sectors := rowOf(96, s)
			sectors[0] = headWith(byte(first), uint32(len(s)), hashOf(s)) + sectors[0][69:]
			d := onto(empty(t, 4, 96), 1, sectors)
			switch first {
			case 0xa1:
				wantAt(t, "a1", d, 1, recordOf(96, 1, s))
			case 0xa2:
				wantAt(t, "a2", d, 1, wipedRecordOf(96, 1, s))
			default:
				wantNoneAt(t, "another first byte", d, 1)
			}
		}
	}
}

// P11.2: heads with another length, and the right hash of it at the end: up to MaxText a wiped one is a record, where there is room.
func TestAtLength(t *testing.T) {
	s := strings.Repeat("b", 300)
	for _, long := range []uint32{0, 1, 299, 300, 301, 350, 399, 400, 65535, 65536, 65537, 65538, 1 << 17, 1 << 24, 1<<31 - 1, 1 << 31, 1<<32 - 69, 1<<32 - 68, 1<<32 - 1} {
		for _, size := range []int{96, 1024} {
			d := empty(t, 800, size)
			sectors := rowOf(size, s)
			sectors[0] = headWith(0xa1, long, hashOf(s)) + sectors[0][69:]
			if long == 300 {
				wantAt(t, "its own length", onto(d, 2, sectors), 2, recordOf(size, 2, s))
			} else {
				wantNoneAt(t, "another length", onto(d, 2, sectors), 2)
			}
			sectors[0] = "\xa2" + sectors[0][1:]
			if long > 65536 {
				wantNoneAt(t, "too long a length", onto(d, 2, sectors), 2)
				continue
			}
			want := api.Record{At: 2, Many: len(cutOf(size, strings.Repeat("a", 69+int(long)))), Wiped: true, H: hashOf(s)}
			wantAt(t, "wiped, another length", onto(d, 2, sectors), 2, want)
		}
	}
}

// P11.2: a record that would end behind the disk is none, nor is a wiped one; one that ends with it is.
func TestAtBehindTheDisk(t *testing.T) {
	r := rand.New(rand.NewSource(15))
	for _, size := range []int{96, 1024} {
		for _, n := range append(fullTexts(size)[1:], size-68, 2*size, 65536) {
			s := anyText(r, n)
			for _, at := range []int{0, 1, 7} {
				whole, wiped := rowOf(size, s), wipedOf(size, s)
				just, short := empty(t, at+len(whole), size), empty(t, at+len(whole)-1, size)
				wantAt(t, "just room", onto(just, at, whole), at, recordOf(size, at, s))
				wantAt(t, "just room, wiped", onto(just, at, wiped), at, wipedRecordOf(size, at, s))
				wantNoneAt(t, "a sector too few", onto(short, at, whole), at)
				wantNoneAt(t, "a sector too few, wiped", onto(short, at, wiped), at)
				wantNoneAt(t, "one sector", onto(empty(t, at+1, size), at, wiped), at)
			}
		}
	}
}

// P11.2: heads with another hash, and the right hash of that at the end, or with the hash of other things there.
func TestAtHash(t *testing.T) {
	s := "a text"
	put := func(head string) api.Disk {
		return onto(empty(t, 3, 96), 1, cutOf(96, head+s))
	}
	other := hashOf("another")
	wantNoneAt(t, "another hash", put(headWith(0xa1, 6, other)), 1)
	wantAt(t, "wiped, another hash", put(headWith(0xa2, 6, other)), 1, api.Record{At: 1, Many: 1, Wiped: true, H: other})
	wantAt(t, "wiped, no hash", put(headWith(0xa2, 6, api.Hash{})), 1, api.Record{At: 1, Many: 1, Wiped: true})
	begin := headOf(s, false)[:37]
	for name, sum := range map[string]api.Hash{
		"one part":         sumOf(8, begin[1:]),
		"the first byte":   sumOf(8, begin[:5], begin[5:]),
		"another kind":     sumOf(1, begin[1:5], begin[5:]),
		"the other order":  sumOf(8, begin[5:], begin[1:5]),
		"nothing":          {},
		"the text's":       hashOf(s),
		"one of no length": sumOf(8, begin[5:]),
	} {
		wantNoneAt(t, name, put(begin+string(sum[:])), 1)
		wantNoneAt(t, name+", wiped", put("\xa2"+begin[1:]+string(sum[:])), 1)
	}
}

// P11.2: At and Load without power: ErrDead, whatever else is.
func TestNotLoadedWithoutPower(t *testing.T) {
	r := rand.New(rand.NewSource(16))
	for _, many := range []int{1, 2, 5} {
		for _, d := range []api.Disk{empty(t, many, 96), onto(empty(t, many, 96), 0, rowOf(96, "abc")), anyDisk(r, many, 96, 2)} {
			d = disk.Cut(d)
			for _, at := range append(noSectors(many), 0, many-1) {
				if got, is, e := store.At(d, at); got != (api.Record{}) || is || e != api.ErrDead {
					t.Errorf("at %d: %+v, %v, %d", at, shortOf(got), is, e)
				}
			}
			if l, end, e := store.Load(d); len(l) != 0 || end != 0 || e != api.ErrDead {
				t.Errorf("%v, %d, %d", l, end, e)
			}
		}
	}
}

// wantAll fails the test, unless Load tells these texts, those that wiped names of them as wiped ones.
func wantAll(t *testing.T, what string, d api.Disk, texts []string, wiped ...int) {
	t.Helper()
	var want []api.Record
	end := 0
	for i, s := range texts {
		r := recordOf(d.Size, end, s)
		if slices.Contains(wiped, i) {
			r = wipedRecordOf(d.Size, end, s)
		}
		want, end = append(want, r), end+r.Many
	}
	got, gotEnd, e := store.Load(d)
	wantLoaded(t, what, got, gotEnd, e, want, end)
}

// P11.2: Load of no record, of one, of some, up to the disk's end, and of such that were wiped.
func TestLoad(t *testing.T) {
	r := rand.New(rand.NewSource(17))
	for _, size := range []int{96, 512, 1024} {
		var texts []string
		var row []string
		for i, n := range []int{3, size - 69, 0, size - 68, 3*size - 69, 1, 2 * size, 0} {
			wantAll(t, "some", onto(empty(t, 20, size), 0, row), texts)
			wantAll(t, "some, not synced", waiting(empty(t, 20, size), 0, row), texts)
			texts = append(texts, anyText(r, n))
			row = append(row, rowOf(size, texts[i])...)
			wantAll(t, "up to the end", onto(empty(t, len(row), size), 0, row), texts)
			var partly []string
			var wiped []int
			for i, s := range texts {
				if r.Intn(2) == 0 {
					partly = append(partly, rowOf(size, s)...)
					continue
				}
				partly, wiped = append(partly, wipedOf(size, s)...), append(wiped, i)
			}
			wantAll(t, "some wiped", onto(empty(t, 20, size), 0, partly), texts, wiped...)
		}
	}
}

// P11.2: Load ends where no record begins, even if others stand behind.
func TestLoadEnds(t *testing.T) {
	d := empty(t, 9, 96)
	wantAll(t, "the first sector free", onto(d, 1, rowOf(96, "a")), nil)
	row := slices.Concat(rowOf(96, "a"), rowOf(96, strings.Repeat("b", 100)), rowOf(96, "c"))
	wantAll(t, "all three", onto(d, 0, row), []string{"a", strings.Repeat("b", 100), "c"})
	wantAll(t, "the second one's head changed", with(onto(d, 0, row), 1, 30, 1), []string{"a"})
	wantAll(t, "the second one's text changed", with(onto(d, 0, row), 2, 30, 1), []string{"a"})
	wantAll(t, "a free sector between", onto(onto(d, 0, row), 3, []string{strings.Repeat("\x00", 96), row[3]}), []string{"a", strings.Repeat("b", 100)})
	wantAll(t, "the third one cut", api.Disk{Size: 96, Kept: row[:2]}, []string{"a"})
}

// P11.2: Load of as many records as a disk can have, and of wiped ones.
func TestLoadMany(t *testing.T) {
	d := empty(t, 4096, 96)
	texts := make([]string, 4096)
	var wiped []int
	for at := range texts {
		texts[at] = strings.Repeat("x", at%28)
		if at%3 == 0 {
			d.Kept[at] = wipedOf(96, texts[at])[0]
			wiped = append(wiped, at)
			continue
		}
		d.Kept[at] = rowOf(96, texts[at])[0]
	}
	wantAll(t, "all", d, texts, wiped...)
	wantAll(t, "all but the last", with(d, 4095, 1, 1), texts[:4095], wiped[:len(wiped)-1]...)
}

// R1: of disks that aren't right the chapter doesn't speak; no call panics, and each ends.
func TestWrongDisksPanicNowhere(t *testing.T) {
	row := append(rowOf(96, "abc"), wipedOf(96, "abc")...)
	for name, d := range map[string]api.Disk{
		"the zero disk":         {},
		"no sector":             {Size: 96},
		"a size of 0":           {Kept: row},
		"a size below 0":        {Size: -96, Kept: row},
		"the least size":        {Size: math.MinInt, Kept: row},
		"a great size":          {Size: math.MaxInt, Kept: row},
		"a greater size":        {Size: 1 << 40, Kept: row},
		"a size of 1":           {Size: 1, Kept: []string{"\xa1", "\xa2"}},
		"a size of 69":          {Size: 69, Kept: []string{row[0][:69], row[1][:69]}},
		"short sectors":         {Size: 96, Kept: []string{row[0][:69], row[1][:70]}},
		"shorter sectors":       {Size: 96, Kept: []string{"\xa1", "\xa2"}},
		"sectors of no byte":    {Size: 96, Kept: []string{"", ""}},
		"long sectors":          {Size: 96, Kept: []string{row[0] + "a", row[1] + row[0]}},
		"a write to no sector":  {Size: 96, Kept: row, W: []api.Write{{At: 2, S: "a"}, {At: -1, S: "a"}}},
		"too long a write":      {Size: 96, Kept: row, W: []api.Write{{At: 0, S: strings.Repeat("a", 200)}}},
		"too many sectors":      {Size: 96, Kept: slices.Repeat(row, 3000)},
		"a write of no byte":    {Size: 96, Kept: row, W: []api.Write{{At: 0}}},
		"a write, and no size":  {Kept: row, W: []api.Write{{At: 0, S: "a"}}},
		"a write, and no place": {Size: 96, W: []api.Write{{At: 0, S: "a"}}},
	} {
		was := copyOf(d)
		for _, at := range []int{0, 1, 2, -1, math.MinInt, math.MaxInt} {
			store.At(d, at)
			store.Wipe(d, at)
			store.Clean(d, at)
			for _, s := range []string{"", "abc", strings.Repeat("a", 500)} {
				store.Put(d, at, s)
			}
		}
		store.Load(d)
		wantDisk(t, name, d, was)
	}
}
