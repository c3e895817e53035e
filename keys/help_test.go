package keys_test

import (
	"crypto/sha256"
	"math"
	"math/big"
	"math/rand"
	"slices"
	"strings"
	"testing"

	"tabulary/api"
	"tabulary/keys"
	"tabulary/lamp"
)

// pairOf is the library's hash of two, laid by hand.
func pairOf(a, b api.Hash) api.Hash {
	length := []byte{0, 0, 0, 0, 0, 0, 0, 32}
	return sha256.Sum256(slices.Concat([]byte{7, 0, 0, 0, 2}, length, a[:], length, b[:]))
}

// rowOf are all keys of such that are right, one by one.
func rowOf(k api.Keys) []api.Hash {
	var row []api.Hash
	for key := 0; key < int(math.Pow(2, float64(k.Height))); key++ {
		row = append(row, lamp.Key(k, key))
	}
	return row
}

// rootOf is the root of a row of 2 to some power, from the top down.
func rootOf(row []api.Hash) api.Hash {
	if len(row) == 1 {
		return row[0]
	}
	return pairOf(rootOf(row[:len(row)/2]), rootOf(row[len(row)/2:]))
}

// pathOf is the path of a place of such a row, from the top down.
func pathOf(row []api.Hash, key int) []api.Hash {
	if len(row) == 1 {
		return nil
	}
	one, two := row[:len(row)/2], row[len(row)/2:]
	if key < len(one) {
		return append(pathOf(one, key), rootOf(two))
	}
	return append(pathOf(two, key-len(one)), rootOf(one))
}

// upOf is the row above, taken off pair by pair.
func upOf(row []api.Hash) []api.Hash {
	switch len(row) {
	case 0:
		return nil
	case 1:
		return []api.Hash{row[0]}
	}
	return append([]api.Hash{pairOf(row[0], row[1])}, upOf(row[2:])...)
}

// climbOf is what a leaf leads to, with a number of any size.
func climbOf(leaf api.Hash, key int, path []api.Hash) api.Hash {
	number, two := big.NewInt(int64(key)), big.NewInt(2)
	for _, beside := range path {
		odd := new(big.Int)
		// Of a divisor above 0 this is the lower whole one.
		number.DivMod(number, two, odd)
		if odd.Sign() == 0 {
			leaf = pairOf(leaf, beside)
		} else {
			leaf = pairOf(beside, leaf)
		}
	}
	return leaf
}

// rightKeys are right keys, of each Height.
func rightKeys() []api.Keys {
	out := []api.Keys{
		{Bits: 1},
		{Bits: 256},
		{Seed: "seed", Height: 2, Bits: 2},
		{Seed: strings.Repeat("s", 256), Height: 6, Bits: 1},
		{Seed: strings.Repeat("\xff", 255), Height: 1, Bits: 256},
	}
	for height := range 7 {
		out = append(out, api.Keys{Seed: "a secret", Height: height, Bits: 3})
	}
	return out
}

// wrongKeys are keys one of whose fields may not be, or some.
func wrongKeys() []api.Keys {
	long := strings.Repeat("s", 257)
	out := []api.Keys{
		{}, {Seed: "seed"}, {Seed: "seed", Height: 2},
		{Seed: long, Bits: 1},
		{Seed: long, Height: 2, Bits: 4},
		{Seed: long, Height: -1, Bits: 0},
		{Seed: long, Height: 7, Bits: 257},
		{Height: -1, Bits: 257},
		{Height: 7, Bits: 0},
	}
	for _, height := range []int{-1, 7, -2, 8, 63, 64, -64, 1 << 32, math.MinInt, math.MaxInt} {
		out = append(out, api.Keys{Seed: "seed", Height: height, Bits: 4})
	}
	for _, bits := range []int{0, 257, -1, 258, 1<<32 + 4, math.MinInt, math.MaxInt} {
		out = append(out, api.Keys{Seed: "seed", Height: 2, Bits: bits})
	}
	return out
}

// numbers are any numbers, with both ends and those below 0.
func numbers() []int {
	out := []int{math.MinInt, math.MinInt + 1, -1 << 62, -1<<32 - 1, -1 << 32, 64, 65, 127, 128, 1<<32 - 1, 1 << 32, 1 << 62, math.MaxInt - 1, math.MaxInt}
	for n := -66; n < 64; n++ {
		out = append(out, n)
	}
	return out
}

// anyRow are so many hashes, any ones.
func anyRow(r *rand.Rand, many int) []api.Hash {
	row := make([]api.Hash, many)
	for i := range row {
		r.Read(row[i][:])
	}
	return row
}

// wantNone fails the test, unless Both answers none and false.
func wantNone(t *testing.T, leaf api.Hash, key int, path []api.Hash, other api.Hash, way []api.Hash) {
	t.Helper()
	if l, is := keys.Both(leaf, key, path, other, way); len(l) != 0 || is {
		t.Errorf("Both of %x and %x with %d, %d and %d steps: %q, %v", leaf[:4], other[:4], key, len(path), len(way), l, is)
	}
}
