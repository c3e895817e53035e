package lamp_test

import (
	"math"
	"math/rand"
	"slices"
	"testing"

	"tabulary/api"
	"tabulary/lamp"
)

// P7.2: Sign, of right keys, of numbers that are any, and of hashes of each kind.
func TestSign(t *testing.T) {
	for _, k := range rightKeys() {
		for _, h := range hashes() {
			for _, key := range []int{-1, 63} {
				if got := lamp.Sign(k, key, h); !slices.Equal(got, signOf(k, key, h)) {
					t.Errorf("%d bytes, Height %d, Bits %d, %d, %x: %d hashes", len(k.Seed), k.Height, k.Bits, key, h, len(got))
				}
			}
		}
		for _, key := range numbers() {
			h := api.Hash{0: 0xa5, 31: 0x5a}
			if got := lamp.Sign(k, key, h); !slices.Equal(got, signOf(k, key, h)) {
				t.Errorf("%d bytes, Bits %d, %d", len(k.Seed), k.Bits, key)
			}
		}
	}
}

// P7.2: a signature tells one secret of each place, and of the other one no more than Public.
func TestSignTellsHalf(t *testing.T) {
	for _, k := range rightKeys() {
		for _, h := range hashes() {
			l := lamp.Sign(k, 3, h)
			if len(l) != 2*k.Bits {
				t.Fatalf("%d hashes of %d bits", len(l), k.Bits)
			}
			for i := range k.Bits {
				told, hidden := secretOf(k, 3, i, bitOf(h, i)), secretOf(k, 3, i, 1-bitOf(h, i))
				if l[2*i] != told || l[2*i+1] != publicOf(hidden) || slices.Contains(l, hidden) {
					t.Errorf("Bits %d, %x, place %d", k.Bits, h, i)
				}
			}
		}
	}
}

// P7.2: Open, of rows of any hashes, just as many as have to be.
func TestOpen(t *testing.T) {
	r := rand.New(rand.NewSource(2))
	for bits := 1; bits <= 256; bits++ {
		l := anyRow(r, 2*bits)
		for _, h := range append(hashes()[:3], anyHash(r)) {
			wantOpen(t, bits, h, l, openOf(bits, h, l), api.OK)
		}
	}
	wantOpen(t, 1, api.Hash{}, make([]api.Hash, 2), openOf(1, api.Hash{}, make([]api.Hash, 2)), api.OK)
	wantOpen(t, 256, api.Hash{}, make([]api.Hash, 512), openOf(256, api.Hash{}, make([]api.Hash, 512)), api.OK)
}

// P7.2: Open of too few hashes, and of too many.
func TestOpenOfOtherRows(t *testing.T) {
	r := rand.New(rand.NewSource(3))
	for _, bits := range []int{1, 2, 3, 4, 7, 8, 9, 128, 255, 256} {
		row := anyRow(r, 2*bits+300)
		for _, many := range []int{0, 1, bits - 1, bits, bits + 1, 2*bits - 2, 2*bits - 1, 2*bits + 1, 2*bits + 2, 2*bits + 256, 2*bits + 300} {
			if many != 2*bits {
				wantOpen(t, bits, api.Hash{0: 0xa0}, row[:many], api.Hash{}, api.ErrSig)
			}
		}
		wantOpen(t, bits, api.Hash{0: 0xa0}, nil, api.Hash{}, api.ErrSig)
		wantOpen(t, bits, api.Hash{0: 0xa0}, row[:2*bits], openOf(bits, api.Hash{0: 0xa0}, row), api.OK)
	}
}

// P7.2: Open of bits that may not be: told ahead of what is wrong with the row.
func TestOpenOfNoBits(t *testing.T) {
	row := anyRow(rand.New(rand.NewSource(4)), 1024)
	// The least number, and that behind it, have twices that go round to 0 and to 2.
	for _, bits := range []int{0, 257, -1, -2, 258, 512, 1 << 31, 1 << 32, 1<<32 + 1, math.MinInt, math.MinInt + 1, math.MinInt + 2, math.MaxInt, math.MaxInt - 1} {
		for _, many := range []int{0, 1, 2, 3, 4, 511, 512, 513, 514, 515, 516, 1024} {
			wantOpen(t, bits, api.Hash{0: 0xa0}, row[:many], api.Hash{}, api.ErrArg)
		}
		wantOpen(t, bits, api.Hash{}, nil, api.Hash{}, api.ErrArg)
	}
}

// P7.3: what a key signs opens it, whatever the keys, the number and the hash.
func TestWhatAKeySignsOpensIt(t *testing.T) {
	for _, k := range rightKeys() {
		for _, key := range numbers() {
			want := lamp.Key(k, key)
			h := api.Hash{0: 0xa0, 31: 0xff}
			wantOpen(t, k.Bits, h, lamp.Sign(k, key, h), want, api.OK)
		}
		want := lamp.Key(k, 5)
		for _, h := range hashes() {
			wantOpen(t, k.Bits, h, lamp.Sign(k, 5, h), want, api.OK)
		}
	}
	r := rand.New(rand.NewSource(5))
	for bits := 1; bits <= 256; bits++ {
		k := api.Keys{Seed: bytesOf(anyHash(r)), Bits: bits}
		key, h := int(r.Uint64()), anyHash(r)
		wantOpen(t, bits, h, lamp.Sign(k, key, h), lamp.Key(k, key), api.OK)
	}
}

// P7.2, P7.3: a hash that differs in a bit that is signed opens another key; in one behind them, the same.
func TestOpenOfChangedHashes(t *testing.T) {
	for _, bits := range []int{1, 2, 4, 7, 8, 9, 16, 255, 256} {
		k := api.Keys{Seed: "seed", Bits: bits}
		for _, h := range []api.Hash{{}, {0: 0xa0, 31: 1}} {
			l, want := lamp.Sign(k, 5, h), lamp.Key(k, 5)
			for i := range 256 {
				a, e := lamp.Open(bits, flipped(h, i), l)
				if e != api.OK || (a == want) != (i >= bits) {
					t.Errorf("%d bits, bit %d of %x: %d", bits, i, h, e)
				}
			}
		}
	}
	k := api.Keys{Seed: "seed", Bits: 4}
	l := lamp.Sign(k, 5, api.Hash{0: 0xa0})
	wantOpen(t, 4, api.Hash{0: 0xb0}, l, openOf(4, api.Hash{0: 0xb0}, l), api.OK)
	wantOpen(t, 4, api.Hash{0: 0xaf}, l, lamp.Key(k, 5), api.OK)
}

// P7.2, P7.3: a signature with one of its hashes changed, or with two of them in each other's place, opens another key.
func TestOpenOfSpoiltSignatures(t *testing.T) {
	k := api.Keys{Seed: "seed", Bits: 9}
	h := api.Hash{0: 0xa5, 1: 0x80}
	l, want := lamp.Sign(k, 5, h), lamp.Key(k, 5)
	for i := range l {
		spoilt := slices.Clone(l)
		spoilt[i] = flipped(spoilt[i], 7*i)
		wantOpen(t, 9, h, spoilt, openOf(9, h, spoilt), api.OK)
		for j := range i {
			other := slices.Clone(l)
			other[i], other[j] = other[j], other[i]
			if a, e := lamp.Open(9, h, other); e != api.OK || a == want {
				t.Errorf("%d and %d: %d", i, j, e)
			}
		}
		if a, e := lamp.Open(9, h, spoilt); e != api.OK || a == want {
			t.Errorf("%d: %d", i, e)
		}
	}
	for _, other := range []int{math.MinInt, -1, 0, 4, 6, math.MaxInt} {
		if a, e := lamp.Open(9, h, lamp.Sign(k, other, h)); e != api.OK || a == want {
			t.Errorf("key %d: %d", other, e)
		}
	}
}

// R3: what is handed in stays as it is, and what came out is not changed by a later call.
func TestNothingIsWrittenInto(t *testing.T) {
	k := api.Keys{Seed: "seed", Bits: 4}
	h := api.Hash{0: 0xa0}
	want := signOf(k, 5, h)
	l := lamp.Sign(k, 5, h)
	first := lamp.Sign(k, 5, h)
	first[0], first[7] = api.Hash{1}, api.Hash{2}
	lamp.Sign(k, 6, h)
	lamp.Key(k, 5)
	room := append(slices.Clone(l), make([]api.Hash, 8)...)
	wantOpen(t, 4, h, room[:8], keyOf(k, 5), api.OK)
	if !slices.Equal(l, want) || !slices.Equal(room[:8], want) || first[0] != (api.Hash{1}) || first[7] != (api.Hash{2}) {
		t.Error("changed")
	}
	for _, x := range room[8:] {
		if x != (api.Hash{}) {
			t.Error("written behind")
		}
	}
}
