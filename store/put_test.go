package store_test

import (
	"encoding/hex"
	"math"
	"math/big"
	"math/rand"
	"slices"
	"strings"
	"testing"

	"tabulary/api"
	"tabulary/disk"
	"tabulary/store"
)

// P11.1: Need of few bytes, by filling sectors one by one.
func TestNeed(t *testing.T) {
	for _, size := range []int{1, 2, 3, 68, 69, 70, 95, 96, 97, 512, 1023, 1024, 65605, 65606} {
		for _, n := range []int{0, 1, 2, 26, 27, 28, 29, 122, 123, 124, 954, 955, 956, 1978, 1979, 1980, 4096, 65535, 65536, 65537} {
			want := 0
			for room := 0; room < 69+n; room += size {
				want++
			}
			if got := store.Need(size, n); got != want {
				t.Errorf("%d, %d: %d, not %d", size, n, got, want)
			}
		}
	}
}

// P11.1: Need by hand: texts that just fill a sector with the head, or have a byte more.
func TestNeedByHand(t *testing.T) {
	for _, x := range [][3]int{
		{96, 0, 1}, {96, 27, 1}, {96, 28, 2}, {96, 123, 2}, {96, 124, 3}, {96, 65536, 684},
		{1024, 0, 1}, {1024, 955, 1}, {1024, 956, 2}, {1024, 1979, 2}, {1024, 1980, 3}, {1024, 65536, 65},
		{1, 0, 69}, {1, 1, 70}, {1, 65536, 65605}, {68, 0, 2}, {69, 0, 1}, {69, 1, 2}, {math.MaxInt, 0, 1},
	} {
		if got := store.Need(x[0], x[1]); got != x[2] {
			t.Errorf("%d, %d: %d, not %d", x[0], x[1], got, x[2])
		}
	}
}

// P11.1: Need with a size below 1, or n below 0.
func TestNeedOfNothing(t *testing.T) {
	wrong := []int{-1, -2, -96, -1 << 32, math.MinInt, math.MinInt + 1}
	for _, size := range append(wrong, 0) {
		for _, n := range []int{0, 1, 27, 65536, math.MaxInt, -1, math.MinInt} {
			if got := store.Need(size, n); got != 0 {
				t.Errorf("%d, %d: %d", size, n, got)
			}
		}
	}
	for _, size := range []int{1, 96, 1024, math.MaxInt} {
		for _, n := range wrong {
			if got := store.Need(size, n); got != 0 {
				t.Errorf("%d, %d: %d", size, n, got)
			}
		}
	}
}

// P11.1, R5: Need of great numbers: both are added as numbers of any size, and what is told goes round at 2^64.
func TestNeedOfGreatNumbers(t *testing.T) {
	great := []int{math.MaxInt, math.MaxInt - 1, math.MaxInt - 68, math.MaxInt - 69, math.MaxInt - 70, 1 << 62, 1<<62 + 1, 1 << 32}
	for _, size := range append(great, 1, 2, 3, 96, 1024) {
		for _, n := range append(great, 0, 1) {
			bytes := new(big.Int).Add(big.NewInt(int64(n)), big.NewInt(69))
			whole, rest := new(big.Int).DivMod(bytes, big.NewInt(int64(size)), new(big.Int))
			if rest.Sign() > 0 {
				whole.Add(whole, big.NewInt(1))
			}
			if got := store.Need(size, n); got != int(whole.Uint64()) {
				t.Errorf("%d, %d: %d, not %d", size, n, got, whole)
			}
		}
	}
}

// The document's words: a head of 69 bytes, held against the library's hash.
func TestHead(t *testing.T) {
	r := rand.New(rand.NewSource(1))
	for _, n := range []int{0, 1, 2, 27, 28, 255, 256, 955, 956, 65535, 65536, 65537, 1 << 17} {
		for _, s := range []string{anyText(r, n), strings.Repeat("\x00", n), strings.Repeat("\xa2", n)} {
			for _, wiped := range []bool{false, true} {
				got := store.Head(s, wiped)
				if got != headOf(s, wiped) || len(got) != 69 {
					t.Errorf("%d bytes, wiped: %v: %x", n, wiped, got)
				}
			}
		}
	}
}

// The head of abc, byte by byte, the hashes reckoned elsewhere.
func TestHeadByHand(t *testing.T) {
	want := "a1" + "00000003" + "4b60b2c5ed45bc72715441db60d184f9c2c9d59a5776a4c53b28a80b8720cee7" + "d6935b8f121d7f4ac2d6e7296f5c580e8722379e8e77085fa00023262b7f9808"
	if got := hex.EncodeToString([]byte(store.Head("abc", false))); got != want {
		t.Error(got)
	}
	if got := hex.EncodeToString([]byte(store.Head("abc", true))); got != "a2"+want[2:] {
		t.Error(got)
	}
}

// wantPut fails the test, unless s is put at a sector, behind all writes, and told.
func wantPut(t *testing.T, d api.Disk, at int, s string) api.Disk {
	t.Helper()
	want := waiting(d, at, rowOf(d.Size, s))
	got, r, e := store.Put(d, at, s)
	wantDisk(t, "put", got, want)
	if e != api.OK || r != recordOf(d.Size, at, s) {
		t.Fatalf("%d bytes at %d of %s: %+v, %d", len(s), at, toldOf(d), shortOf(r), e)
	}
	if !disk.Right(got) {
		t.Fatal("a disk that isn't right")
	}
	return got
}

// P11.1: Put at the first sector, in the midst, and so that the record ends with the disk.
func TestPut(t *testing.T) {
	r := rand.New(rand.NewSource(2))
	for _, size := range []int{96, 97, 512, 1024} {
		for _, n := range append(fullTexts(size), 0, 1, 2, size, size-68, 2*size-68, 2*size-70) {
			for _, s := range []string{anyText(r, n), strings.Repeat("\x00", n), strings.Repeat("\xa1", n)} {
				d := anyDisk(r, 25, size, r.Intn(5))
				need := len(rowOf(size, s))
				for _, at := range []int{0, 1, 25 - need - 1, 25 - need} {
					wantPut(t, d, at, s)
				}
				wantPut(t, empty(t, need, size), 0, s)
			}
		}
	}
}

// P11.1: Put of the longest text, which just has room.
func TestPutTheLongest(t *testing.T) {
	r := rand.New(rand.NewSource(3))
	for size, need := range map[int]int{96: 684, 1024: 65} {
		for _, n := range []int{65535, 65536} {
			s := anyText(r, n)
			wantPut(t, empty(t, need, size), 0, s)
			wantPut(t, empty(t, need+3, size), 3, s)
		}
	}
	wantPut(t, empty(t, 4096, 96), 4096-684, anyText(r, 65536))
}

// P11.1: Put on a disk of one sector, and into the last one of the greatest.
func TestPutIntoOneSector(t *testing.T) {
	r := rand.New(rand.NewSource(4))
	for _, size := range []int{96, 1024} {
		for _, n := range []int{0, 1, size - 70, size - 69} {
			wantPut(t, empty(t, 1, size), 0, anyText(r, n))
			wantPut(t, empty(t, 4096, size), 4095, anyText(r, n))
		}
	}
}

// wantRefused fails the test, unless s isn't put, with that error, and the disk stays.
func wantRefused(t *testing.T, d api.Disk, at int, s string, want api.Errno) {
	t.Helper()
	got, r, e := store.Put(d, at, s)
	wantDisk(t, "refused", got, d)
	if e != want || r != (api.Record{}) {
		t.Errorf("%d bytes at %d of %s: %+v, %d, not %d", len(s), at, toldOf(d), shortOf(r), e, want)
	}
}

// P11.1, R1, R2: what Put refuses, and which error goes first; the disk stays.
func TestPutRefused(t *testing.T) {
	r := rand.New(rand.NewSource(5))
	big := []string{anyText(r, 65537), anyText(r, 65538), strings.Repeat("\x00", 1<<20)}
	for _, size := range []int{96, 1024} {
		for _, many := range []int{1, 2, 5, 700} {
			d := anyDisk(r, many, size, many%3)
			off := disk.Cut(d)
			rooms := slices.Concat(noSectors(many), []int{0, many / 2, many - 1})
			for _, at := range rooms {
				for _, s := range big {
					wantRefused(t, d, at, s, api.ErrBig)
					wantRefused(t, off, at, s, api.ErrDead)
				}
				wantRefused(t, off, at, "abc", api.ErrDead)
				wantRefused(t, off, at, "", api.ErrDead)
			}
			for _, at := range noSectors(many) {
				for _, s := range []string{"", "abc", anyText(r, 4*size), anyText(r, 65536)} {
					wantRefused(t, d, at, s, api.ErrFull)
					wantRefused(t, off, at, s, api.ErrDead)
				}
			}
		}
	}
}

// P11.1: Put where there is just one sector too few, or one byte too much.
func TestPutWithoutRoom(t *testing.T) {
	r := rand.New(rand.NewSource(6))
	for _, size := range []int{96, 1024} {
		for _, many := range []int{1, 2, 3, 10} {
			d := anyDisk(r, many, size, 2)
			for at := range many {
				just := (many-at)*size - 69
				wantPut(t, d, at, anyText(r, just))
				wantRefused(t, d, at, anyText(r, just+1), api.ErrFull)
				wantRefused(t, d, at, anyText(r, just+size), api.ErrFull)
				wantRefused(t, disk.Cut(d), at, anyText(r, just+1), api.ErrDead)
			}
		}
	}
	s := anyText(r, 65536)
	wantRefused(t, empty(t, 683, 96), 0, s, api.ErrFull)
	wantRefused(t, empty(t, 684, 96), 1, s, api.ErrFull)
	wantRefused(t, empty(t, 64, 1024), 0, s, api.ErrFull)
}
