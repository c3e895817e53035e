package lamp_test

import (
	"encoding/hex"
	"math"
	"math/rand"
	"strings"
	"testing"

	"tabulary/api"
	"tabulary/lamp"
)

// P7.1: Right, of keys that are and that are not, each bound from both sides.
func TestRight(t *testing.T) {
	for _, k := range rightKeys() {
		if !lamp.Right(k) {
			t.Errorf("not right: %d bytes, Height %d, Bits %d", len(k.Seed), k.Height, k.Bits)
		}
	}
	for _, k := range wrongKeys() {
		if lamp.Right(k) {
			t.Errorf("right: %d bytes, Height %d, Bits %d", len(k.Seed), k.Height, k.Bits)
		}
	}
	for size := range 300 {
		for height := -3; height < 10; height++ {
			for _, bits := range []int{-1, 0, 1, 2, 255, 256, 257} {
				k := api.Keys{Seed: strings.Repeat("x", size), Height: height, Bits: bits}
				if want := size <= 256 && height >= 0 && height <= 6 && bits >= 1 && bits <= 256; lamp.Right(k) != want {
					t.Errorf("%d bytes, Height %d, Bits %d: not %v", size, height, bits, want)
				}
			}
		}
	}
	for bits := -300; bits < 600; bits++ {
		if lamp.Right(api.Keys{Bits: bits}) != (bits >= 1 && bits <= 256) {
			t.Errorf("Bits %d", bits)
		}
	}
}

// P7.1: Secret and Public, by the texts that are hashed.
func TestSecretByHand(t *testing.T) {
	k := api.Keys{Seed: "ab", Height: 1, Bits: 3}
	text := "05 00000004 0000000000000002 6162 0000000000000008 0000000000000007 0000000000000008 fffffffffffffffe 0000000000000008 0000000000000001"
	if got := lamp.Secret(k, 7, -2, 1); got != sumOfHex(t, text) {
		t.Errorf("%x", got)
	}
	s := api.Hash{0: 0x12, 31: 0xfe}
	text = "06 00000001 0000000000000020 12" + strings.Repeat("00", 30) + "fe"
	if got := lamp.Public(s); got != sumOfHex(t, text) {
		t.Errorf("%x", got)
	}
	one, two := lamp.Public(lamp.Secret(api.Keys{Bits: 1}, 0, 0, 0)), lamp.Public(lamp.Secret(api.Keys{Bits: 1}, 0, 0, 1))
	text = "06 00000002 0000000000000020" + hex.EncodeToString(one[:]) + "0000000000000020" + hex.EncodeToString(two[:])
	if got := lamp.Key(api.Keys{Bits: 1}, 0); got != sumOfHex(t, text) {
		t.Errorf("%x", got)
	}
}

// P7.1: Secret, of right keys, and of numbers that are any.
func TestSecret(t *testing.T) {
	for _, k := range rightKeys() {
		for _, a := range numbers() {
			for _, x := range [][3]int{{a, 0, 0}, {0, a, 1}, {1, 2, a}, {a, a, a}, {a, 3, 1}, {-1, a, 0}, {63, 255, a}} {
				if got := lamp.Secret(k, x[0], x[1], x[2]); got != secretOf(k, x[0], x[1], x[2]) {
					t.Errorf("%d bytes, Height %d, Bits %d, of %d: %x", len(k.Seed), k.Height, k.Bits, x, got)
				}
			}
		}
	}
}

// P7.1: Secret hangs on Seed and the numbers alone: no two unlike ones have one, Height and Bits are not asked.
func TestSecretsAreUnlike(t *testing.T) {
	seen := map[api.Hash]bool{}
	many := 0
	few := []int{math.MinInt, -1, 0, 1, 2, 256, math.MaxInt}
	for _, seed := range []string{"", "\x00", "a", "aa", numberOf(0), numberOf(1), strings.Repeat("a", 256)} {
		for _, key := range few {
			for _, i := range few {
				for _, bit := range few {
					s := lamp.Secret(api.Keys{Seed: seed, Bits: 1}, key, i, bit)
					if s != lamp.Secret(api.Keys{Seed: seed, Height: 6, Bits: 256}, key, i, bit) {
						t.Errorf("%q, %d, %d, %d: hangs on Height or Bits", seed, key, i, bit)
					}
					seen[s] = true
					many++
				}
			}
		}
	}
	if len(seen) != many {
		t.Errorf("%d secrets of %d", len(seen), many)
	}
}

// P7.1: Public, of any hash.
func TestPublic(t *testing.T) {
	for _, h := range hashes() {
		if got := lamp.Public(h); got != publicOf(h) || got == h {
			t.Errorf("%x: %x", h, got)
		}
	}
}

// P7.1: Bit, as the chapter's example has it, and of all bits of some hashes; 0 of bits that are none.
func TestBit(t *testing.T) {
	if h := (api.Hash{0: 0x80}); lamp.Bit(h, 0) != 1 || lamp.Bit(h, 1) != 0 {
		t.Error("the example")
	}
	for _, x := range []struct{ at, bit int }{{0, 0}, {0, 7}, {1, 0}, {1, 7}, {15, 3}, {31, 0}, {31, 7}} {
		var h api.Hash
		h[x.at] = 0x80 >> x.bit
		for i := -300; i < 600; i++ {
			want := 0
			if i == 8*x.at+x.bit {
				want = 1
			}
			if got := lamp.Bit(h, i); got != want {
				t.Errorf("%x, %d: %d", h, i, got)
			}
		}
	}
	for _, h := range hashes() {
		for i := range 256 {
			if got := lamp.Bit(h, i); got != bitOf(h, i) {
				t.Errorf("%x, %d: %d", h, i, got)
			}
		}
	}
	full := hashes()[1]
	for _, i := range []int{-1, 256, -2, -7, -8, -256, 257, 263, 264, 511, 512, 1 << 32, -1 << 32, math.MinInt, math.MinInt + 1, math.MaxInt} {
		if got := lamp.Bit(full, i); got != 0 {
			t.Errorf("%d: %d", i, got)
		}
	}
	for _, i := range []int{0, 7, 8, 255} {
		if got := lamp.Bit(full, i); got != 1 {
			t.Errorf("%d: %d", i, got)
		}
	}
}

// P7.1: Key, of right keys, and of numbers that are any.
func TestKey(t *testing.T) {
	for _, k := range rightKeys() {
		for _, key := range numbers() {
			if got := lamp.Key(k, key); got != keyOf(k, key) {
				t.Errorf("%d bytes, Height %d, Bits %d, %d: %x", len(k.Seed), k.Height, k.Bits, key, got)
			}
		}
	}
	r := rand.New(rand.NewSource(1))
	for bits := 1; bits <= 256; bits++ {
		k := api.Keys{Seed: bytesOf(anyHash(r))[:bits%33], Height: bits % 7, Bits: bits}
		key := int(r.Uint64())
		if got := lamp.Key(k, key); got != keyOf(k, key) {
			t.Errorf("%d bits, %d: %x", bits, key, got)
		}
	}
}

// P7.1: Key of another number, Seed or Bits is another one, but not that of another Height.
func TestKeysAreUnlike(t *testing.T) {
	seen := map[api.Hash]bool{}
	many := 0
	for _, seed := range []string{"", "a", "b", "\x00"} {
		for _, bits := range []int{1, 2, 3, 8, 256} {
			for _, key := range []int{math.MinInt, -1, 0, 1, 2, 256, math.MaxInt} {
				a := lamp.Key(api.Keys{Seed: seed, Bits: bits}, key)
				if a != lamp.Key(api.Keys{Seed: seed, Height: 6, Bits: bits}, key) {
					t.Errorf("%q, %d, %d: hangs on Height", seed, bits, key)
				}
				seen[a] = true
				many++
			}
		}
	}
	if len(seen) != many {
		t.Errorf("%d keys of %d", len(seen), many)
	}
}

// P7.1, P7.2: of keys that are not right nothing is told.
func TestNothingOfWrongKeys(t *testing.T) {
	for _, k := range wrongKeys() {
		for _, n := range []int{math.MinInt, -1, 0, 1, math.MaxInt} {
			if s := lamp.Secret(k, n, n, n); s != (api.Hash{}) {
				t.Errorf("%d bytes, Height %d, Bits %d: Secret %x", len(k.Seed), k.Height, k.Bits, s)
			}
			if s := lamp.Secret(k, 0, n, 1); s != (api.Hash{}) {
				t.Errorf("%d bytes, Height %d, Bits %d: Secret %x", len(k.Seed), k.Height, k.Bits, s)
			}
			if a := lamp.Key(k, n); a != (api.Hash{}) {
				t.Errorf("%d bytes, Height %d, Bits %d: Key %x", len(k.Seed), k.Height, k.Bits, a)
			}
			if l := lamp.Sign(k, n, api.Hash{0: 0xa0}); len(l) != 0 {
				t.Errorf("%d bytes, Height %d, Bits %d: %d hashes", len(k.Seed), k.Height, k.Bits, len(l))
			}
		}
	}
}
