package lamp_test

import (
	"crypto/sha256"
	"encoding/binary"
	"encoding/hex"
	"math"
	"math/big"
	"math/rand"
	"strings"
	"testing"

	"tabulary/api"
	"tabulary/lamp"
)

// libraryOf is the library's hash of a kind and parts, laid by the library.
func libraryOf(kind byte, parts ...string) api.Hash {
	text := binary.BigEndian.AppendUint32([]byte{kind}, uint32(len(parts)))
	for _, part := range parts {
		text = binary.BigEndian.AppendUint64(text, uint64(len(part)))
		text = append(text, part...)
	}
	return sha256.Sum256(text)
}

// numberOf is a number as a part, laid by the library.
func numberOf(n int) string { return string(binary.BigEndian.AppendUint64(nil, uint64(n))) }

// bytesOf is a hash as a part.
func bytesOf(h api.Hash) string { return string(h[:]) }

// secretOf is what Secret has to answer of right keys.
func secretOf(k api.Keys, key, i, bit int) api.Hash {
	return libraryOf(5, k.Seed, numberOf(key), numberOf(i), numberOf(bit))
}

// publicOf is what Public has to answer.
func publicOf(s api.Hash) api.Hash { return libraryOf(6, bytesOf(s)) }

// keyOf is what Key has to answer of right keys.
func keyOf(k api.Keys, key int) api.Hash {
	var parts []string
	for i := range k.Bits {
		parts = append(parts, bytesOf(publicOf(secretOf(k, key, i, 0))), bytesOf(publicOf(secretOf(k, key, i, 1))))
	}
	return libraryOf(6, parts...)
}

// bitOf is a hash's bit, as a great number has it.
func bitOf(h api.Hash, i int) int {
	if i < 0 || i > 255 {
		return 0
	}
	return int(new(big.Int).SetBytes(h[:]).Bit(255 - i))
}

// signOf is what Sign has to answer of right keys.
func signOf(k api.Keys, key int, h api.Hash) []api.Hash {
	var l []api.Hash
	for i := range k.Bits {
		if bitOf(h, i) == 0 {
			l = append(l, secretOf(k, key, i, 0), publicOf(secretOf(k, key, i, 1)))
		} else {
			l = append(l, secretOf(k, key, i, 1), publicOf(secretOf(k, key, i, 0)))
		}
	}
	return l
}

// openOf is the key that Open has to answer, where it refuses nothing.
func openOf(bits int, h api.Hash, l []api.Hash) api.Hash {
	var parts []string
	for i := range bits {
		first, second := bytesOf(publicOf(l[2*i])), bytesOf(l[2*i+1])
		if bitOf(h, i) == 0 {
			parts = append(parts, first, second)
		} else {
			parts = append(parts, second, first)
		}
	}
	return libraryOf(6, parts...)
}

// sumOfHex is the library's hash of the bytes that these hexadecimals tell.
func sumOfHex(t *testing.T, text string) api.Hash {
	t.Helper()
	b, err := hex.DecodeString(strings.ReplaceAll(text, " ", ""))
	if err != nil {
		t.Fatal(err)
	}
	return sha256.Sum256(b)
}

// rightKeys are right keys of each kind, with the edges.
func rightKeys() []api.Keys {
	return []api.Keys{
		{Bits: 1},
		{Bits: 256},
		{Seed: "seed", Bits: 4},
		{Seed: "seed", Height: 1, Bits: 2},
		{Seed: "seed", Height: 6, Bits: 7},
		{Seed: "\x00", Height: 5, Bits: 8},
		{Seed: "\x00\xff\x80", Height: 2, Bits: 9},
		{Seed: strings.Repeat("s", 255), Height: 6, Bits: 255},
		{Seed: strings.Repeat("s", 256), Height: 6, Bits: 256},
		{Seed: strings.Repeat("\xff", 256), Bits: 1},
	}
}

// wrongKeys are keys one of whose fields may not be, or some.
func wrongKeys() []api.Keys {
	long := strings.Repeat("s", 257)
	out := []api.Keys{
		{}, {Seed: "seed"}, {Height: 6},
		{Seed: long, Bits: 1},
		{Seed: long, Height: 6, Bits: 256},
		{Seed: strings.Repeat("\x00", 257), Bits: 1},
		{Seed: strings.Repeat("s", 512), Bits: 8},
		{Seed: strings.Repeat("s", api.MaxText), Bits: 8},
		{Seed: long, Height: -1, Bits: 0},
		{Seed: long, Height: 7, Bits: 257},
		{Height: -1, Bits: 257},
		{Height: 7},
	}
	for _, height := range []int{-1, 7, -2, 8, 64, -64, 1 << 32, -1 << 32, 1<<32 + 1, math.MinInt, math.MaxInt} {
		out = append(out, api.Keys{Seed: "seed", Height: height, Bits: 4})
	}
	for _, bits := range []int{0, 257, -1, -4, 258, 512, 1 << 32, 1<<32 + 4, math.MinInt, math.MinInt + 4, math.MaxInt} {
		out = append(out, api.Keys{Seed: "seed", Height: 1, Bits: bits})
	}
	return out
}

// numbers are any numbers, with both ends and those below 0.
func numbers() []int {
	return []int{math.MinInt, math.MinInt + 1, -1 << 32, -65537, -257, -256, -255, -2, -1, 0, 1, 2, 7, 63, 64, 127, 128, 255, 256, 257, 1 << 16, 1<<31 - 1, 1 << 31, 1 << 32, 0x0102030405060708, math.MaxInt - 1, math.MaxInt}
}

// hashes are hashes of each kind: plain ones, ones of a single bit, and any.
func hashes() []api.Hash {
	all := api.Hash{}
	for i := range all {
		all[i] = 0xff
	}
	out := []api.Hash{{}, all, {0: 0x80}, {0: 0xa0}, {0: 1}, {1: 0x80}, {31: 1}, {31: 0x80}, {0: 0x55, 1: 0xaa}}
	r := rand.New(rand.NewSource(7))
	for range 4 {
		out = append(out, anyHash(r))
	}
	return out
}

// anyHash is any hash.
func anyHash(r *rand.Rand) api.Hash {
	var h api.Hash
	r.Read(h[:])
	return h
}

// anyRow are so many hashes, any ones.
func anyRow(r *rand.Rand, many int) []api.Hash {
	l := make([]api.Hash, many)
	for i := range l {
		l[i] = anyHash(r)
	}
	return l
}

// flipped is a hash with one of its bits changed.
func flipped(h api.Hash, i int) api.Hash {
	h[i/8] ^= 0x80 >> (i % 8)
	return h
}

// wantOpen fails the test, unless Open answers just that.
func wantOpen(t *testing.T, bits int, h api.Hash, l []api.Hash, want api.Hash, e api.Errno) {
	t.Helper()
	if a, got := lamp.Open(bits, h, l); a != want || got != e {
		t.Errorf("Open of %d bits, %x, %d hashes: %x, %d; not %x, %d", bits, h, len(l), a, got, want, e)
	}
}
