package sign_test

import (
	"math"
	"math/rand"
	"slices"
	"testing"

	"tabulary/api"
	"tabulary/keys"
	"tabulary/sign"
)

// P9.2: Check of what was signed with the first key, the last one, and those between.
func TestCheck(t *testing.T) {
	for _, k := range rightKeys() {
		root := keys.Root(k)
		for i, key := range places(k) {
			text := texts()[i%len(texts())]
			g := sigOf(k, key, text)
			wantCheck(t, "as it is", api.OK, root, k.Height, k.Bits, text, g)
			// Keys are not asked for: another row of the same bytes is as good.
			wantCheck(t, "a copy", api.OK, root, k.Height, k.Bits, text, copyOf(g))
		}
	}
	k := api.Keys{Seed: "seed", Bits: 2}
	g := api.Sig{L: sigOf(k, 0, "text").L}
	for _, path := range [][]api.Hash{nil, {}} {
		g.Path = path
		wantCheck(t, "no Path", api.OK, keys.Root(k), 0, 2, "text", g)
	}
}

// heights and bits that may not be.
var (
	wrongHeights = []int{-1, 7, -2, 8, 63, 64, -64, 1 << 32, math.MinInt, math.MaxInt}
	wrongBits    = []int{0, 257, -1, 258, 512, 1 << 32, 1<<32 + 8, math.MinInt, math.MaxInt}
)

// P9.2: ErrArg goes first, whatever else is wrong.
func TestCheckOfWrongArguments(t *testing.T) {
	k := api.Keys{Seed: "seed", Height: 2, Bits: 8}
	root, g := keys.Root(k), sigOf(k, 3, "text")
	for _, x := range []api.Sig{g, {}, {Key: -1, L: g.L, Path: g.Path}, {Key: 4, L: g.L[1:], Path: g.Path[1:]}, {Key: 3, L: g.L, Path: append(slices.Clone(g.Path), root)}} {
		for _, height := range wrongHeights {
			wantCheck(t, "height", api.ErrArg, root, height, 8, "text", x)
			wantCheck(t, "height, and more", api.ErrArg, api.Hash{}, height, 8, "another", x)
			for _, bits := range wrongBits {
				wantCheck(t, "both", api.ErrArg, root, height, bits, "text", x)
			}
		}
		for _, bits := range wrongBits {
			for height := range 7 {
				wantCheck(t, "bits", api.ErrArg, root, height, bits, "text", x)
			}
		}
	}
	// As many hashes as such a height or such bits would ask for.
	wantCheck(t, "height 7", api.ErrArg, root, 7, 8, "text", api.Sig{L: g.L, Path: make([]api.Hash, 7)})
	wantCheck(t, "bits 0", api.ErrArg, root, 2, 0, "text", api.Sig{Path: g.Path})
	wantCheck(t, "bits 257", api.ErrArg, root, 2, 257, "text", api.Sig{L: make([]api.Hash, 514), Path: g.Path})
}

// P9.2: Check with another Key, with such too from which Path leads to the root as well.
func TestCheckOfAnotherKey(t *testing.T) {
	for height := range 7 {
		k := api.Keys{Seed: "seed", Height: height, Bits: 4}
		root, many := keys.Root(k), manyOf(k)
		for key := range many {
			g := sigOf(k, key, "text")
			others := []int{-1, many, many + 1, -many, key + many, key - many, key + 2*many, key + 1<<32, key + math.MinInt, math.MaxInt, math.MinInt}
			for other := range many {
				if other != key {
					others = append(others, other)
				}
			}
			for _, other := range others {
				x := api.Sig{Key: other, L: g.L, Path: g.Path}
				wantCheck(t, "another Key", api.ErrSig, root, height, 4, "text", x)
			}
			if keys.Climb(keys.Row(k)[key], key-many, g.Path) != root {
				t.Fatal("the test itself: no Key below 0 leads to the root")
			}
		}
	}
}

// P9.2: Check with a Path that has not height hashes, though it leads to the root.
func TestCheckOfAnotherPath(t *testing.T) {
	for height := range 7 {
		k := api.Keys{Seed: "seed", Height: height, Bits: 4}
		root, leaves := keys.Root(k), keys.Row(k)
		for key := range leaves {
			g := sigOf(k, key, "text")
			long := append(slices.Clone(g.Path), leaves[0])
			x := api.Sig{Key: key, L: g.L, Path: long}
			wantCheck(t, "one more", api.ErrSig, root, height, 4, "text", x)
			wantCheck(t, "one more, to its root", api.ErrSig, keys.Climb(leaves[key], key, long), height, 4, "text", x)
			if height < 6 {
				wantCheck(t, "one more, a height more", api.OK, keys.Climb(leaves[key], key, long), height+1, 4, "text", x)
				wantCheck(t, "a height more", api.ErrSig, root, height+1, 4, "text", g)
			}
			if height == 0 {
				continue
			}
			short := g.Path[:height-1]
			x.Path = short
			wantCheck(t, "one less", api.ErrSig, root, height, 4, "text", x)
			wantCheck(t, "one less, to its root", api.ErrSig, keys.Climb(leaves[key], key, short), height, 4, "text", x)
			x.Path = nil
			wantCheck(t, "none", api.ErrSig, root, height, 4, "text", x)
			wantCheck(t, "none, to its root", api.ErrSig, leaves[key], height, 4, "text", x)
			for i := range g.Path {
				x.Path = slices.Clone(g.Path)
				x.Path[i][i] ^= 0x10
				wantCheck(t, "one hash changed", api.ErrSig, root, height, 4, "text", x)
			}
			if height > 1 {
				x.Path = slices.Clone(g.Path)
				slices.Reverse(x.Path)
				wantCheck(t, "turned round", api.ErrSig, root, height, 4, "text", x)
			}
		}
	}
}

// P9.2: Check with an L that Open refuses, or from which another key comes.
func TestCheckOfAnotherL(t *testing.T) {
	for _, k := range []api.Keys{{Bits: 1}, {Seed: "seed", Height: 2, Bits: 8}, {Seed: "seed", Height: 1, Bits: 40}} {
		root, last := keys.Root(k), manyOf(k)-1
		g := sigOf(k, last, "text")
		many := len(g.L)
		longer := append(slices.Clone(g.L), g.L...)
		for _, l := range [][]api.Hash{nil, g.L[:many-1], g.L[1:], g.L[:many-2], longer[:many+1], longer[:many+2], longer} {
			x := api.Sig{Key: last, L: l, Path: g.Path}
			wantCheck(t, "as many", api.ErrSig, root, k.Height, k.Bits, "text", x)
			// What an Open that refuses answers is no key.
			wantCheck(t, "as many, from all 0", api.ErrSig, climbOf(api.Hash{}, last, g.Path), k.Height, k.Bits, "text", x)
		}
		wantCheck(t, "one bit more", api.ErrSig, root, k.Height, k.Bits+1, "text", g)
		if k.Bits > 1 {
			wantCheck(t, "one bit less", api.ErrSig, root, k.Height, k.Bits-1, "text", g)
		}
		for i := range g.L {
			x := copyOf(g)
			x.L[i][i%32] ^= 1
			wantCheck(t, "one hash changed", api.ErrSig, root, k.Height, k.Bits, "text", x)
		}
		for i := 0; i < many; i += 2 {
			x := copyOf(g)
			x.L[i], x.L[i+1] = x.L[i+1], x.L[i]
			wantCheck(t, "two hashes changed round", api.ErrSig, root, k.Height, k.Bits, "text", x)
		}
	}
}

// P9.2: Check with another root.
func TestCheckOfAnotherRoot(t *testing.T) {
	k := api.Keys{Seed: "seed", Height: 3, Bits: 16}
	root := keys.Root(k)
	g := sigOf(k, 5, "text")
	wrong := []api.Hash{{}, keys.Row(k)[5], keys.Root(api.Keys{Seed: "Seed", Height: 3, Bits: 16}), keys.Root(api.Keys{Seed: "seed", Height: 3, Bits: 17}), sumOf(8, "text")}
	for i := range 256 {
		other := root
		other[i/8] ^= 1 << (i % 8)
		wrong = append(wrong, other)
	}
	for _, other := range wrong {
		wantCheck(t, "another root", api.ErrSig, other, 3, 16, "text", g)
	}
}

// P9.2: Check of another text; just as many bits of its digest are asked for as are signed.
func TestCheckOfAnotherText(t *testing.T) {
	k := api.Keys{Seed: "seed", Height: 3, Bits: 256}
	root := keys.Root(k)
	for _, text := range texts() {
		g := sigOf(k, 5, text)
		for _, other := range texts() {
			if other != text {
				wantCheck(t, "another text", api.ErrSig, root, 3, 256, other, g)
			}
		}
	}
	few := api.Keys{Seed: "seed", Height: 1, Bits: 1}
	g, first := sigOf(few, 1, "text"), sumOf(8, "text")[0]&0x80
	same, unlike := 0, 0
	for c := range 64 {
		text := string(rune('0' + c))
		if sumOf(8, text)[0]&0x80 == first {
			same++
			wantCheck(t, "the bit is the same", api.OK, keys.Root(few), 1, 1, text, g)
		} else {
			unlike++
			wantCheck(t, "the bit is unlike", api.ErrSig, keys.Root(few), 1, 1, text, g)
		}
	}
	if same == 0 || unlike == 0 {
		t.Fatal("the test itself: the bit is the same in all texts")
	}
}

// P9.2: several that are wrong at once, any ones, held against the oracle.
func TestCheckOfAnyMixture(t *testing.T) {
	r := rand.New(rand.NewSource(4))
	k := api.Keys{Seed: "seed", Height: 2, Bits: 5}
	root := keys.Root(k)
	seen := map[api.Errno]int{}
	var signed []api.Sig
	for key := range 4 {
		signed = append(signed, sigOf(k, key, "text"))
	}
	for range 4000 {
		g := copyOf(signed[r.Intn(4)])
		at, height, bits, text := root, 2, 5, "text"
		for _, what := range r.Perm(9)[:r.Intn(3)] {
			switch what {
			case 0:
				at[r.Intn(32)] ^= 4
			case 1:
				height = r.Intn(9) - 1
			case 2:
				bits = r.Intn(8) - 1
			case 3:
				text = "another"
			case 4:
				g.Key = numbers()[r.Intn(len(numbers()))]
			case 5:
				g.L = g.L[:r.Intn(len(g.L)+1)]
			case 6:
				g.Path = append(g.Path[:r.Intn(len(g.Path)+1)], root)
			case 7:
				g.L = append(g.L, root, root)
			case 8:
				g.Path = g.Path[:0]
			}
		}
		want := checkOf(at, height, bits, text, g)
		seen[want]++
		wantCheck(t, "any mixture", want, at, height, bits, text, g)
	}
	for _, e := range []api.Errno{api.OK, api.ErrArg, api.ErrSig} {
		if seen[e] < 100 {
			t.Fatalf("the test itself: %d answers of %d", seen[e], e)
		}
	}
}

// P9.2, P9.3, R3: no row that is handed in is changed, nor what lies behind it.
func TestRowsAreLeftAlone(t *testing.T) {
	k := api.Keys{Seed: "seed", Height: 2, Bits: 8}
	root, g := keys.Root(k), sigOf(k, 1, "text")
	more := anyRow(rand.New(rand.NewSource(5)), 4)
	behind := api.Sig{Key: 1, L: slices.Concat(g.L, more), Path: slices.Concat(g.Path, more)}
	was := copyOf(behind)
	x := api.Sig{Key: 1, L: behind.L[:len(g.L)], Path: behind.Path[:len(g.Path)]}
	for range 2 {
		wantCheck(t, "with more behind", api.OK, root, 2, 8, "text", x)
		wantCheck(t, "with another text", api.ErrSig, root, 2, 8, "another", x)
		if sign.Text(x) != textOf(g) || !sign.Same(x, g) || !sign.Same(g, x) {
			t.Error("what lies behind a row is seen")
		}
	}
	if !sameOf(behind, was) {
		t.Error("a row that was handed in is changed")
	}
}
