package sign_test

import (
	"crypto/sha256"
	"encoding/binary"
	"math"
	"math/big"
	"math/rand"
	"slices"
	"strings"
	"testing"

	"tabulary/api"
	"tabulary/keys"
	"tabulary/lamp"
	"tabulary/sign"
)

// laidOf is the text of a kind and parts, laid by the library.
func laidOf(kind byte, parts ...string) string {
	text := binary.BigEndian.AppendUint32([]byte{kind}, uint32(len(parts)))
	for _, part := range parts {
		text = binary.BigEndian.AppendUint64(text, uint64(len(part)))
		text = append(text, part...)
	}
	return string(text)
}

// sumOf is the library's hash of that.
func sumOf(kind byte, parts ...string) api.Hash { return sha256.Sum256([]byte(laidOf(kind, parts...))) }

// numberOf is a number as a part, laid by the library.
func numberOf(n int) string { return string(binary.BigEndian.AppendUint64(nil, uint64(n))) }

// bytesOf are the bytes of hashes.
func bytesOf(row []api.Hash) string {
	var b strings.Builder
	for _, h := range row {
		b.Write(h[:])
	}
	return b.String()
}

// textOf is what Text has to answer.
func textOf(g api.Sig) string { return laidOf(8, numberOf(g.Key), bytesOf(g.L), bytesOf(g.Path)) }

// openOf is the key that as many hashes as two a bit open.
func openOf(bits int, h api.Hash, l []api.Hash) api.Hash {
	number := new(big.Int).SetBytes(h[:])
	var parts []string
	for i := range bits {
		one := sumOf(6, string(l[2*i][:]))
		first, second := string(one[:]), string(l[2*i+1][:])
		if number.Bit(255-i) == 1 {
			first, second = second, first
		}
		parts = append(parts, first, second)
	}
	return sumOf(6, parts...)
}

// climbOf is what a leaf leads to, with a number that is not below 0.
func climbOf(leaf api.Hash, key int, path []api.Hash) api.Hash {
	for i, beside := range path {
		a, b := leaf, beside
		if key/int(math.Pow(2, float64(i)))%2 == 1 {
			a, b = b, a
		}
		leaf = sumOf(7, string(a[:]), string(b[:]))
	}
	return leaf
}

// checkOf is what Check has to answer.
func checkOf(root api.Hash, height, bits int, text string, g api.Sig) api.Errno {
	if height < 0 || height > 6 || bits < 1 || bits > 256 {
		return api.ErrArg
	}
	many := []int{1, 2, 4, 8, 16, 32, 64}[height]
	if g.Key < 0 || g.Key > many-1 || len(g.Path) != height || len(g.L) != 2*bits {
		return api.ErrSig
	}
	if climbOf(openOf(bits, sumOf(8, text), g.L), g.Key, g.Path) != root {
		return api.ErrSig
	}
	return api.OK
}

// wantCheck fails the test, unless Check answers that, and so does its oracle.
func wantCheck(t *testing.T, what string, want api.Errno, root api.Hash, height, bits int, text string, g api.Sig) {
	t.Helper()
	if plain := checkOf(root, height, bits, text, g); plain != want {
		t.Fatalf("%s: the test itself asks for %d and %d", what, want, plain)
	}
	if e := sign.Check(root, height, bits, text, g); e != want {
		t.Errorf("%s: Height %d, Bits %d, Key %d, %d and %d hashes: %d, not %d", what, height, bits, g.Key, len(g.L), len(g.Path), e, want)
	}
}

// rightKeys are right keys, with the edges.
func rightKeys() []api.Keys {
	out := []api.Keys{
		{Bits: 1},
		{Bits: 256},
		{Seed: "seed", Height: 1, Bits: 256},
		{Seed: strings.Repeat("s", 256), Height: 6, Bits: 1},
		{Seed: strings.Repeat("\xff", 255), Height: 2, Bits: 255},
		{Seed: "seed", Height: 6, Bits: 256},
	}
	for height := range 7 {
		out = append(out, api.Keys{Seed: "a secret", Height: height, Bits: 3})
	}
	return out
}

// wrongKeys are keys one of whose fields may not be, or some.
func wrongKeys() []api.Keys {
	long := strings.Repeat("s", 257)
	out := []api.Keys{
		{}, {Seed: "seed"}, {Seed: "seed", Height: 6},
		{Seed: long, Bits: 1},
		{Seed: long, Height: 6, Bits: 256},
		{Seed: long, Height: -1},
		{Seed: long, Height: 7, Bits: 257},
		{Height: -1, Bits: 257},
		{Height: 7, Bits: 0},
	}
	for _, height := range []int{-1, 7, -2, 8, 63, 64, -64, 1 << 32, math.MinInt, math.MaxInt} {
		out = append(out, api.Keys{Seed: "seed", Height: height, Bits: 4})
	}
	for _, bits := range []int{0, 257, -1, 258, 1<<32 + 4, math.MinInt, math.MaxInt} {
		out = append(out, api.Keys{Seed: "seed", Height: 2, Bits: bits})
	}
	return out
}

// manyOf is how many keys there are of such that are right.
func manyOf(k api.Keys) int { return []int{1, 2, 4, 8, 16, 32, 64}[k.Height] }

// places are numbers of keys to try of so many: all of few, else those at both ends.
func places(k api.Keys) []int {
	many := manyOf(k)
	if k.Bits < 64 || many <= 4 {
		out := make([]int, many)
		for i := range out {
			out[i] = i
		}
		return out
	}
	return []int{0, many - 1}
}

// texts are texts of any bytes: none, few, and many.
func texts() []string {
	return []string{"", "a", "\x00", "\x00\x00", "two words", "\xff\x80 no runes", strings.Repeat("x", 63), strings.Repeat("long", api.MaxText/4), strings.Repeat("\x00", api.MaxText+1)}
}

// numbers are any numbers, with both ends and those below 0.
func numbers() []int {
	return []int{math.MinInt, math.MinInt + 1, -1 << 56, -1<<32 - 1, -1 << 32, -257, -256, -255, -129, -128, -127, -2, -1, 0, 1, 2, 63, 64, 127, 128, 255, 256, 257, 1<<31 - 1, 1 << 31, 1<<32 - 1, 1 << 32, 1 << 55, 1 << 56, 0x0102030405060708, math.MaxInt - 1, math.MaxInt}
}

// anyRow are so many hashes, any ones.
func anyRow(r *rand.Rand, many int) []api.Hash {
	row := make([]api.Hash, many)
	for i := range row {
		r.Read(row[i][:])
	}
	return row
}

// anySigs are signatures of which few may be checked, with rows of many lengths.
func anySigs() []api.Sig {
	r := rand.New(rand.NewSource(9))
	out := []api.Sig{{}, {Key: 1}, {Key: -1}}
	for _, l := range []int{0, 1, 2, 3, 16, 511, 512, 513, 600} {
		for _, path := range []int{0, 1, 2, 6, 7, 64, 65} {
			out = append(out, api.Sig{Key: int(r.Uint64()), L: anyRow(r, l), Path: anyRow(r, path)})
		}
	}
	for _, key := range numbers() {
		out = append(out, api.Sig{Key: key, L: anyRow(r, 2), Path: anyRow(r, 1)})
	}
	return out
}

// sigOf is the signature of a text with one of the keys, made of the layers below.
func sigOf(k api.Keys, key int, text string) api.Sig {
	path, _ := keys.Path(k, key)
	return api.Sig{Key: key, L: lamp.Sign(k, key, sumOf(8, text)), Path: path}
}

// sameOf: are two the same, hash by hash?
func sameOf(a, b api.Sig) bool {
	return a.Key == b.Key && slices.Equal(a.L, b.L) && slices.Equal(a.Path, b.Path)
}

// copyOf is a signature that shares nothing with this one.
func copyOf(g api.Sig) api.Sig {
	return api.Sig{Key: g.Key, L: slices.Clone(g.L), Path: slices.Clone(g.Path)}
}

// isNone: is it the signature that stands beside an error?
func isNone(g api.Sig) bool { return g.Key == 0 && len(g.L) == 0 && len(g.Path) == 0 }
