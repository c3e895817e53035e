package sign_test

import (
	"math"
	"slices"
	"testing"

	"tabulary/api"
	"tabulary/keys"
	"tabulary/sign"
)

// P9.1: New, and all keys that are left of it.
func TestNew(t *testing.T) {
	for _, k := range rightKeys() {
		s, e := sign.New(k)
		if e != api.OK || s != (api.Signer{K: k}) || sign.Left(s) != manyOf(k) {
			t.Errorf("%d bytes, Height %d, Bits %d: %d, %d, %d", len(k.Seed), k.Height, k.Bits, s.Next, sign.Left(s), e)
		}
	}
}

// P9.1, R2: New of keys that are not right.
func TestNewOfWrongKeys(t *testing.T) {
	for _, k := range wrongKeys() {
		if s, e := sign.New(k); e != api.ErrArg || s != (api.Signer{}) {
			t.Errorf("%d bytes, Height %d, Bits %d: %v, %d", len(k.Seed), k.Height, k.Bits, s, e)
		}
	}
}

// P9.1: Left, with each number of the next key.
func TestLeft(t *testing.T) {
	for _, k := range rightKeys() {
		many := manyOf(k)
		for next := 0; next <= many; next++ {
			if got := sign.Left(api.Signer{K: k, Next: next}); got != many-next {
				t.Errorf("Height %d, next %d: %d", k.Height, next, got)
			}
		}
	}
}

// P9.1: Sign, with the first key, the last one, and those between, of texts of any bytes.
func TestSign(t *testing.T) {
	for _, k := range rightKeys() {
		told := texts()
		for i, next := range places(k) {
			text := told[i%len(told)]
			s, g, e := sign.Sign(api.Signer{K: k, Next: next}, text)
			if e != api.OK || s != (api.Signer{K: k, Next: next + 1}) {
				t.Errorf("Height %d, next %d: next %d, %d", k.Height, next, s.Next, e)
			}
			if !sameOf(g, sigOf(k, next, text)) {
				t.Errorf("Height %d, Bits %d, next %d: Key %d, %d and %d hashes", k.Height, k.Bits, next, g.Key, len(g.L), len(g.Path))
			}
		}
	}
	k := api.Keys{Seed: "seed", Height: 3, Bits: 64}
	for _, text := range texts() {
		if _, g, e := sign.Sign(api.Signer{K: k, Next: 5}, text); e != api.OK || !sameOf(g, sigOf(k, 5, text)) {
			t.Errorf("%d bytes: Key %d, %d", len(text), g.Key, e)
		}
	}
}

// P9.1: Sign, where nothing is left: the signer stays.
func TestSignWithNothingLeft(t *testing.T) {
	for _, k := range rightKeys() {
		for _, text := range texts() {
			was := api.Signer{K: k, Next: manyOf(k)}
			if s, g, e := sign.Sign(was, text); e != api.ErrKeys || s != was || !isNone(g) {
				t.Errorf("Height %d, %d bytes: next %d, Key %d, %d", k.Height, len(text), s.Next, g.Key, e)
			}
		}
	}
}

// R1: of a signer that is not right the document does not speak; it signs nothing, and nothing panics.
func TestSignersThatAreNotRight(t *testing.T) {
	wrong := []api.Signer{}
	for _, k := range wrongKeys() {
		for _, next := range []int{0, 1, -1, math.MinInt, math.MaxInt} {
			wrong = append(wrong, api.Signer{K: k, Next: next})
		}
	}
	for _, k := range []api.Keys{{Bits: 1}, {Seed: "seed", Height: 1, Bits: 8}, {Seed: "seed", Height: 6, Bits: 2}} {
		for _, next := range []int{-1, -2, -64, math.MinInt, math.MinInt + 1, manyOf(k) + 1, 65, 1 << 32, math.MaxInt} {
			wrong = append(wrong, api.Signer{K: k, Next: next})
		}
	}
	for _, was := range wrong {
		if got := sign.Left(was); got != 0 {
			t.Errorf("Height %d, Bits %d, next %d: %d are left", was.K.Height, was.K.Bits, was.Next, got)
		}
		if s, g, e := sign.Sign(was, "text"); e != api.ErrKeys || s != was || !isNone(g) {
			t.Errorf("Height %d, Bits %d, next %d: next %d, Key %d, %d", was.K.Height, was.K.Bits, was.Next, s.Next, g.Key, e)
		}
	}
}

// P9.1: Digest, with the library's hash.
func TestDigest(t *testing.T) {
	seen := map[api.Hash]bool{}
	for _, text := range texts() {
		if got := sign.Digest(text); got != sumOf(8, text) {
			t.Errorf("%d bytes: %x", len(text), got)
		}
		seen[sign.Digest(text)] = true
	}
	if len(seen) != len(texts()) {
		t.Errorf("%d digests of %d texts", len(seen), len(texts()))
	}
}

// P9.4: what is signed is checked, by the root of its keys; no key signs twice.
func TestAllThatIsSignedIsChecked(t *testing.T) {
	for height := range 7 {
		k := api.Keys{Seed: "all of them", Height: height, Bits: 16}
		root := keys.Root(k)
		s, _ := sign.New(k)
		var all []api.Sig
		var told []string
		for sign.Left(s) > 0 {
			text := string(rune('a' + len(all)))
			next, g, e := sign.Sign(s, text)
			if e != api.OK || g.Key != len(all) || sign.Left(next) != sign.Left(s)-1 {
				t.Fatalf("Height %d, %d: Key %d, %d left, %d", height, len(all), g.Key, sign.Left(next), e)
			}
			s, all, told = next, append(all, g), append(told, text)
		}
		if len(all) != manyOf(k) {
			t.Errorf("Height %d: %d signatures", height, len(all))
		}
		for i, g := range all {
			for _, j := range []int{0, i, len(told) - 1} {
				want := api.ErrSig
				if i == j {
					want = api.OK
				}
				if e := sign.Check(root, height, 16, told[j], g); e != want {
					t.Errorf("Height %d: text %d with signature %d: %d", height, j, i, e)
				}
			}
		}
	}
}

// The document's example: two texts are signed with keys of Height 1, the third one is not.
func TestExample(t *testing.T) {
	k := api.Keys{Seed: "seed", Height: 1, Bits: 16}
	s, _ := sign.New(k)
	for i, text := range []string{"one", "two"} {
		var g api.Sig
		var e api.Errno
		if s, g, e = sign.Sign(s, text); e != api.OK || g.Key != i || sign.Left(s) != 1-i {
			t.Errorf("%s: Key %d, %d", text, g.Key, e)
		}
		wantCheck(t, text, api.OK, keys.Root(k), 1, 16, text, g)
	}
	if last, g, e := sign.Sign(s, "three"); e != api.ErrKeys || last != s || !isNone(g) {
		t.Errorf("three: %d", e)
	}
}

// R3, R4: an answer of Sign is another one each time, so that none is seen in a later one, and none of its rows in the other.
func TestSignSharesNothing(t *testing.T) {
	k := api.Keys{Seed: "seed", Height: 2, Bits: 3}
	s := api.Signer{K: k, Next: 2}
	_, g, _ := sign.Sign(s, "text")
	was := copyOf(g)
	_ = append(g.L, api.Hash{1})
	_ = append(g.Path, api.Hash{2})
	if !sameOf(g, was) {
		t.Error("one row is seen in the other")
	}
	for i := range g.L {
		g.L[i] = api.Hash{}
	}
	if !slices.Equal(g.Path, was.Path) {
		t.Error("L is seen in Path")
	}
	for i := range g.Path {
		g.Path[i] = api.Hash{}
	}
	if next, again, e := sign.Sign(s, "text"); e != api.OK || next.Next != 3 || !sameOf(again, was) {
		t.Error("an answer is seen in a later one")
	}
}
