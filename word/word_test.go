package word_test

import (
	"bytes"
	"crypto/sha256"
	"encoding/binary"
	"math"
	"math/rand"
	"slices"
	"strings"
	"testing"

	"tabulary/api"
	"tabulary/word"
)

// samples are words with no bits, all bits, one bit each, and mixed ones.
func samples() []uint32 {
	l := []uint32{0, math.MaxUint32, 0x12345678, 0x6a09e667, 0xdeadbeef}
	for i := range 32 {
		l = append(l, 1<<i)
	}
	return l
}

// turns are the numbers of bits that the tests turn by.
func turns() []int {
	l := []int{math.MinInt, math.MinInt + 1, math.MaxInt, math.MaxInt - 1}
	for n := -100; n <= 100; n++ {
		l = append(l, n)
	}
	return l
}

// bit is a word's bit at that place, which goes round.
func bit(w uint32, at int) uint32 { return w >> ((at%32 + 32) % 32) & 1 }

// turned is a word turned right bit by bit.
func turned(w uint32, n int) uint32 {
	out := uint32(0)
	for i := range 32 {
		out |= bit(w, i+n%32) << i
	}
	return out
}

// sampleBlock is a block whose bytes all differ.
func sampleBlock() string {
	var b [64]byte
	for i := range b {
		b[i] = byte(37*i + 200)
	}
	return string(b[:])
}

// P1.1: Turn.
func TestTurnExamples(t *testing.T) {
	for _, x := range []struct {
		w    uint32
		n    int
		want uint32
	}{
		{1, 1, 0x80000000},
		{0x12345678, 0, 0x12345678},
		{0x12345678, 4, 0x81234567},
		{0x12345678, 31, 0x2468acf0},
		{0x12345678, 32, 0x12345678},
		{0x12345678, 36, 0x81234567},
		{0x12345678, -4, 0x23456781},
		{0x12345678, -32, 0x12345678},
		{0x12345678, -36, 0x23456781},
		{0x12345678, math.MinInt, 0x12345678},
		{0x12345678, math.MaxInt, 0x2468acf0},
	} {
		if got := word.Turn(x.w, x.n); got != x.want {
			t.Errorf("Turn(%08x, %d): %08x, not %08x", x.w, x.n, got, x.want)
		}
	}
}

// P1.1: Turn, at all numbers of bits below 0 and above 32.
func TestTurnBitByBit(t *testing.T) {
	for _, w := range samples() {
		for _, n := range turns() {
			if got, want := word.Turn(w, n), turned(w, n); got != want {
				t.Errorf("Turn(%08x, %d): %08x, not %08x", w, n, got, want)
			}
		}
	}
}

// P1.1: Choose and Most, at all eight ways in which three bits may stand, and at mixed words.
func TestChooseAndMost(t *testing.T) {
	const x, y, z = 0xf0, 0xcc, 0xaa
	if got := word.Choose(x, y, z); got != 0xca {
		t.Errorf("Choose: %08x", got)
	}
	if got := word.Choose(^uint32(x), y, z); got != 0xac {
		t.Errorf("Choose of the others: %08x", got)
	}
	if got := word.Most(x, y, z); got != 0xe8 {
		t.Errorf("Most: %08x", got)
	}
	l := samples()
	for i, a := range l {
		b, c := l[(i+3)%len(l)], l[(i+4)%len(l)]
		for at := range 32 {
			chosen := bit(c, at)
			if bit(a, at) == 1 {
				chosen = bit(b, at)
			}
			if bit(word.Choose(a, b, c), at) != chosen {
				t.Errorf("Choose(%08x, %08x, %08x): bit %d", a, b, c, at)
			}
			if most := (bit(a, at) + bit(b, at) + bit(c, at)) / 2; bit(word.Most(a, b, c), at) != most {
				t.Errorf("Most(%08x, %08x, %08x): bit %d", a, b, c, at)
			}
		}
	}
}

// P1.1: Big and Small, of 0 and of any other.
func TestBigAndSmall(t *testing.T) {
	for _, w := range samples() {
		big0 := turned(w, 2) ^ turned(w, 13) ^ turned(w, 22)
		small0 := turned(w, 7) ^ turned(w, 18) ^ w>>3
		if got := word.Big(w, 0); got != big0 {
			t.Errorf("Big(%08x, 0): %08x, not %08x", w, got, big0)
		}
		if got := word.Small(w, 0); got != small0 {
			t.Errorf("Small(%08x, 0): %08x, not %08x", w, got, small0)
		}
		big1 := turned(w, 6) ^ turned(w, 11) ^ turned(w, 25)
		small1 := turned(w, 17) ^ turned(w, 19) ^ w>>10
		for _, which := range []int{1, 2, 7, -1, math.MaxInt, math.MinInt} {
			if got := word.Big(w, which); got != big1 {
				t.Errorf("Big(%08x, %d): %08x, not %08x", w, which, got, big1)
			}
			if got := word.Small(w, which); got != small1 {
				t.Errorf("Small(%08x, %d): %08x, not %08x", w, which, got, small1)
			}
		}
	}
}

// P1.2: Words and Bytes of a block.
func TestWordsAndBytes(t *testing.T) {
	block := sampleBlock()
	l, e := word.Words(block)
	if e != api.OK || len(l) != 16 {
		t.Fatal(l, e)
	}
	for i, w := range l {
		if want := binary.BigEndian.Uint32([]byte(block[4*i:])); w != want {
			t.Errorf("word %d: %08x, not %08x", i, w, want)
		}
	}
	if word.Bytes(l) != block {
		t.Errorf("%x", word.Bytes(l))
	}
}

// P1.2: Words and Spread of what is no block.
func TestNoBlock(t *testing.T) {
	for _, size := range []int{0, 1, 4, 60, 63, 65, 68, 127, 128, 4096} {
		s := strings.Repeat("a", size)
		if l, e := word.Words(s); e != api.ErrArg || len(l) != 0 {
			t.Errorf("Words of %d bytes: %v %d", size, l, e)
		}
		if l, e := word.Spread(s); e != api.ErrArg || len(l) != 0 {
			t.Errorf("Spread of %d bytes: %v %d", size, l, e)
		}
	}
}

// P1.2: Bytes of any number of words, which stay as they were.
func TestBytes(t *testing.T) {
	if s := word.Bytes(nil) + word.Bytes([]uint32{}); s != "" {
		t.Errorf("%x", s)
	}
	l := []uint32{0x01020304, 0xfffefdfc, 0}
	if s := word.Bytes(l[:1]); s != "\x01\x02\x03\x04" {
		t.Errorf("%x", s)
	}
	if s := word.Bytes(l); s != "\x01\x02\x03\x04\xff\xfe\xfd\xfc\x00\x00\x00\x00" {
		t.Errorf("%x", s)
	}
	if !slices.Equal(l, []uint32{0x01020304, 0xfffefdfc, 0}) {
		t.Errorf("%x", l)
	}
}

// P1.2: Pad, at the edges of blocks and where eight times the number goes round.
func TestPad(t *testing.T) {
	for _, x := range []struct {
		n      uint64
		zeros  int
		length string
	}{
		{0, 55, "\x00\x00\x00\x00\x00\x00\x00\x00"},
		{1, 54, "\x00\x00\x00\x00\x00\x00\x00\x08"},
		{54, 1, "\x00\x00\x00\x00\x00\x00\x01\xb0"},
		{55, 0, "\x00\x00\x00\x00\x00\x00\x01\xb8"},
		{56, 63, "\x00\x00\x00\x00\x00\x00\x01\xc0"},
		{63, 56, "\x00\x00\x00\x00\x00\x00\x01\xf8"},
		{64, 55, "\x00\x00\x00\x00\x00\x00\x02\x00"},
		{119, 0, "\x00\x00\x00\x00\x00\x00\x03\xb8"},
		{120, 63, "\x00\x00\x00\x00\x00\x00\x03\xc0"},
		{0x0123456789abcdef, 8, "\x09\x1a\x2b\x3c\x4d\x5e\x6f\x78"},
		{1<<61 - 1, 56, "\xff\xff\xff\xff\xff\xff\xff\xf8"},
		{1 << 61, 55, "\x00\x00\x00\x00\x00\x00\x00\x00"},
		{1<<61 + 1, 54, "\x00\x00\x00\x00\x00\x00\x00\x08"},
		{1 << 63, 55, "\x00\x00\x00\x00\x00\x00\x00\x00"},
		{math.MaxUint64 - 8, 0, "\xff\xff\xff\xff\xff\xff\xff\xb8"},
		{math.MaxUint64 - 7, 63, "\xff\xff\xff\xff\xff\xff\xff\xc0"},
		{math.MaxUint64, 56, "\xff\xff\xff\xff\xff\xff\xff\xf8"},
	} {
		if got, want := word.Pad(x.n), "\x80"+strings.Repeat("\x00", x.zeros)+x.length; got != want {
			t.Errorf("Pad(%d): %x, not %x", x.n, got, want)
		}
	}
}

// P1.2: Spread begins with Words, and each further word hangs on those ahead of it.
func TestSpread(t *testing.T) {
	block := sampleBlock()
	first, _ := word.Words(block)
	l, e := word.Spread(block)
	if e != api.OK || len(l) != 64 || !slices.Equal(l[:16], first) {
		t.Fatal(l, e)
	}
	for i := 16; i < 64; i++ {
		a, b := l[i-2], l[i-15]
		want := (turned(a, 17) ^ turned(a, 19) ^ a>>10) + l[i-7] + (turned(b, 7) ^ turned(b, 18) ^ b>>3) + l[i-16]
		if l[i] != want {
			t.Errorf("word %d: %08x, not %08x", i, l[i], want)
		}
	}
}

// P1.2: what one call answers is not changed by who has another's answer.
func TestAnswersShareNothing(t *testing.T) {
	block := sampleBlock()
	for name, call := range map[string]func(string) ([]uint32, api.Errno){"Words": word.Words, "Spread": word.Spread} {
		a, _ := call(block)
		b := slices.Clone(a)
		for i := range a {
			a[i]++
		}
		if c, _ := call(block); !slices.Equal(b, c) {
			t.Errorf("%s: %x, not %x", name, c, b)
		}
	}
}

// P1.3: a message filled up has whole blocks, and no more than it needs.
func TestPaddedIsWholeBlocks(t *testing.T) {
	check := func(n uint64) {
		size := uint64(len(word.Pad(n)))
		if (n%64+size)%64 != 0 || size < 9 || size > 72 {
			t.Errorf("Pad(%d) has %d bytes", n, size)
		}
	}
	for i := range uint64(300) {
		check(i)
		check(1<<61 - 150 + i)
		check(math.MaxUint64 - i)
	}
}

// P1.3: turned there and back a word is as it was.
func TestThereAndBack(t *testing.T) {
	for _, w := range samples() {
		for _, n := range turns() {
			if got := word.Turn(word.Turn(w, n), -n); got != w {
				t.Errorf("%08x by %d and back: %08x", w, n, got)
			}
		}
	}
}

// constants are FIPS 180-4's: 32 bits of the fractions of the cube roots of the first 64 primes.
func constants() []uint32 {
	var out []uint32
	for n := 2; len(out) < 64; n++ {
		prime := true
		for d := 2; d*d <= n; d++ {
			prime = prime && n%d != 0
		}
		if prime {
			_, fraction := math.Modf(math.Cbrt(float64(n)))
			out = append(out, uint32(fraction*(1<<32)))
		}
	}
	return out
}

// mixed is SHA-256's mix of a block into eight words.
func mixed(t *testing.T, h [8]uint32, block string, k []uint32) [8]uint32 {
	l, e := word.Spread(block)
	if e != api.OK {
		t.Fatal(e)
	}
	v := h
	for i, w := range l {
		a := v[7] + word.Big(v[4], 1) + word.Choose(v[4], v[5], v[6]) + k[i] + w
		b := word.Big(v[0], 0) + word.Most(v[0], v[1], v[2])
		v = [8]uint32{a + b, v[0], v[1], v[2], v[3] + a, v[4], v[5], v[6]}
	}
	for i := range h {
		h[i] += v[i]
	}
	return h
}

// P1.1, P1.2 and P1.3 together: all calls, put together to SHA-256, come to the library's hash.
func TestTogether(t *testing.T) {
	k := constants()
	r := rand.New(rand.NewSource(1))
	for size := range 200 {
		text := make([]byte, size)
		r.Read(text)
		s := string(text) + word.Pad(uint64(size))
		h := [8]uint32{0x6a09e667, 0xbb67ae85, 0x3c6ef372, 0xa54ff53a, 0x510e527f, 0x9b05688c, 0x1f83d9ab, 0x5be0cd19}
		for ; s != ""; s = s[64:] {
			h = mixed(t, h, s[:64], k)
		}
		if want := sha256.Sum256(text); !bytes.Equal([]byte(word.Bytes(h[:])), want[:]) {
			t.Errorf("%d bytes: %x, not %x", size, word.Bytes(h[:]), want)
		}
	}
}
