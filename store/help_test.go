package store_test

import (
	"crypto/sha256"
	"encoding/binary"
	"math"
	"math/rand"
	"slices"
	"strconv"
	"strings"
	"testing"

	"tabulary/api"
	"tabulary/disk"
)

// sumOf is the library's hash of a kind and parts, laid by the library.
func sumOf(kind byte, parts ...string) api.Hash {
	text := binary.BigEndian.AppendUint32([]byte{kind}, uint32(len(parts)))
	for _, part := range parts {
		text = binary.BigEndian.AppendUint64(text, uint64(len(part)))
		text = append(text, part...)
	}
	return sha256.Sum256(text)
}

// hashOf is the hash of a text.
func hashOf(s string) api.Hash { return sumOf(1, s) }

// headWith is a head with that first byte, that length and that hash, and with the right hash of these at its end.
func headWith(first byte, long uint32, h api.Hash) string {
	length := string(binary.BigEndian.AppendUint32(nil, long))
	sum := sumOf(8, length, string(h[:]))
	return string([]byte{first}) + length + string(h[:]) + string(sum[:])
}

// headOf is what Head has to answer.
func headOf(s string, wiped bool) string {
	if wiped {
		return headWith(0xa2, uint32(len(s)), hashOf(s))
	}
	return headWith(0xa1, uint32(len(s)), hashOf(s))
}

// cutOf are the sectors that a row of bytes has, the last one filled up with bytes of 0.
func cutOf(size int, row string) []string {
	var out []string
	for from := 0; from < len(row); from += size {
		sector := make([]byte, size)
		copy(sector, row[from:])
		out = append(out, string(sector))
	}
	return out
}

// rowOf are a record's sectors.
func rowOf(size int, s string) []string { return cutOf(size, headOf(s, false)+s) }

// wipedOf are the sectors of a wiped record.
func wipedOf(size int, s string) []string {
	out := cutOf(size, strings.Repeat("\x00", 69+len(s)))
	out[0] = cutOf(size, headOf(s, true))[0]
	return out
}

// recordOf is what Put and At have to tell of a record.
func recordOf(size, at int, s string) api.Record {
	return api.Record{At: at, Many: len(rowOf(size, s)), S: s, H: hashOf(s)}
}

// wipedRecordOf is what At has to tell of a wiped one.
func wipedRecordOf(size, at int, s string) api.Record {
	r := recordOf(size, at, s)
	r.S, r.Wiped = "", true
	return r
}

// atOf is what At has to answer of these sectors: all bytes in one row are gone through.
func atOf(image []string, size, at int) (api.Record, bool) {
	if at < 0 || at > len(image)-1 {
		return api.Record{}, false
	}
	row := strings.Join(image[at:], "")
	long := binary.BigEndian.Uint32([]byte(row[1:5]))
	h := api.Hash([]byte(row[5:37]))
	if row[0] != 0xa1 && row[0] != 0xa2 || long > 65536 || int(long) > len(row)-69 || row[:69] != headWith(row[0], long, h) {
		return api.Record{}, false
	}
	s := row[69 : 69+long]
	many := len(cutOf(size, row[:69+long]))
	if row[0] == 0xa2 {
		return api.Record{At: at, Many: many, Wiped: true, H: h}, true
	}
	return api.Record{At: at, Many: many, S: s, H: h}, hashOf(s) == h
}

// loadOf is what Load has to answer of these sectors.
func loadOf(image []string, size int) ([]api.Record, int) {
	var out []api.Record
	end := 0
	for r, is := atOf(image, size, 0); is; r, is = atOf(image, size, end) {
		out, end = append(out, r), end+r.Many
	}
	return out, end
}

// sameOf: are two disks the same, list by list?
func sameOf(a, b api.Disk) bool {
	return a.Size == b.Size && a.Off == b.Off && slices.Equal(a.Kept, b.Kept) && slices.Equal(a.W, b.W)
}

// copyOf is a disk with lists of its own.
func copyOf(d api.Disk) api.Disk {
	d.Kept, d.W = slices.Clone(d.Kept), slices.Clone(d.W)
	return d
}

// spoil writes over all that a disk's lists have, and behind it.
func spoil(d api.Disk) {
	kept, w := d.Kept[:cap(d.Kept)], d.W[:cap(d.W)]
	for i := range kept {
		kept[i] = "spoilt"
	}
	for i := range w {
		w[i] = api.Write{At: -7, S: "spoilt"}
	}
}

// toldOf tells a disk in few words.
func toldOf(d api.Disk) string {
	return strconv.Itoa(len(d.Kept)) + " sectors of " + strconv.Itoa(d.Size) + ", " + strconv.Itoa(len(d.W)) + " writes, off: " + strconv.FormatBool(d.Off)
}

// wantDisk fails the test, unless a disk is that one.
func wantDisk(t *testing.T, what string, got, want api.Disk) {
	t.Helper()
	if sameOf(got, want) {
		return
	}
	t.Errorf("%s: %s, not %s", what, toldOf(got), toldOf(want))
	for at := range min(len(got.Kept), len(want.Kept)) {
		if got.Kept[at] != want.Kept[at] {
			t.Fatalf("%s: sector %d: %x, not %x", what, at, got.Kept[at], want.Kept[at])
		}
	}
	for i := range min(len(got.W), len(want.W)) {
		if got.W[i] != want.W[i] {
			t.Fatalf("%s: write %d: %x, not %x", what, i, got.W[i], want.W[i])
		}
	}
}

// shortOf is a record with only the beginning of its text, quoted, to be printed.
func shortOf(r api.Record) api.Record {
	r.S = strconv.Quote(r.S[:min(len(r.S), 20)])
	return r
}

// wantLoaded fails the test, unless Load answers these records, and that sector.
func wantLoaded(t *testing.T, what string, got []api.Record, end int, e api.Errno, want []api.Record, wantEnd int) {
	t.Helper()
	if e != api.OK || end != wantEnd || !slices.Equal(got, want) {
		t.Fatalf("%s: %d records to %d, %d, not %d to %d", what, len(got), end, e, len(want), wantEnd)
	}
}

// empty is a disk of bytes of 0.
func empty(t *testing.T, many, size int) api.Disk {
	t.Helper()
	d, e := disk.New(many, size)
	if e != api.OK {
		t.Fatal(many, size, e)
	}
	return d
}

// onto is a disk whose sectors from one on are these, all else as it was.
func onto(d api.Disk, at int, sectors []string) api.Disk {
	d = copyOf(d)
	copy(d.Kept[at:], sectors)
	return d
}

// waiting is a disk with writes of these sectors, from one on, that aren't synced.
func waiting(d api.Disk, at int, sectors []string) api.Disk {
	d = copyOf(d)
	for i, s := range sectors {
		d.W = append(d.W, api.Write{At: at + i, S: s})
	}
	return d
}

// anyText has so many bytes, any ones.
func anyText(r *rand.Rand, many int) string {
	b := make([]byte, many)
	r.Read(b)
	return string(b)
}

// anyDisk is a disk of any bytes, with so many writes that weren't synced.
func anyDisk(r *rand.Rand, many, size, writes int) api.Disk {
	d := api.Disk{Size: size}
	for range many {
		d.Kept = append(d.Kept, anyText(r, size))
	}
	for range writes {
		d.W = append(d.W, api.Write{At: r.Intn(many), S: anyText(r, 1+r.Intn(size))})
	}
	return d
}

// fullTexts are how many bytes a text has that just fills so many sectors with its head.
func fullTexts(size int) []int { return []int{size - 69, 2*size - 69, 3*size - 69, 10*size - 69} }

// noSectors are places at which a disk of so many sectors has none.
func noSectors(many int) []int {
	return []int{-1, many, -2, many + 1, -many, 2 * many, 1 << 32, -1 << 32, 1<<32 + 1, math.MinInt, math.MinInt + 1, math.MaxInt - 1, math.MaxInt}
}

// The oracle itself, by hand.
func TestOracle(t *testing.T) {
	if got := cutOf(3, "abcd"); !slices.Equal(got, []string{"abc", "d\x00\x00"}) {
		t.Errorf("%q", got)
	}
	if s := headOf("ab", false); len(s) != 69 || s[:5] != "\xa1\x00\x00\x00\x02" || headOf("ab", true) != "\xa2"+s[1:] {
		t.Errorf("%x", s)
	}
	row := slices.Concat(rowOf(96, "one"), wipedOf(96, strings.Repeat("a", 28)), rowOf(96, ""), []string{strings.Repeat("\x00", 96)})
	want := []api.Record{
		{At: 0, Many: 1, S: "one", H: hashOf("one")},
		{At: 1, Many: 2, Wiped: true, H: hashOf(strings.Repeat("a", 28))},
		{At: 3, Many: 1, H: hashOf("")},
	}
	if got, end := loadOf(row, 96); !slices.Equal(got, want) || end != 4 {
		t.Errorf("%v %d", got, end)
	}
	if _, is := atOf(row, 96, 2); is {
		t.Error("a record within one")
	}
}
