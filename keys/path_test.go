package keys_test

import (
	"math"
	"math/rand"
	"slices"
	"testing"

	"tabulary/api"
	"tabulary/keys"
)

// P8.2: Path, of each key there is.
func TestPath(t *testing.T) {
	for _, k := range rightKeys() {
		row := rowOf(k)
		for key := range row {
			if l, e := keys.Path(k, key); e != api.OK || len(l) != k.Height || !slices.Equal(l, pathOf(row, key)) {
				t.Errorf("Height %d, %d: %x, %d", k.Height, key, l, e)
			}
		}
	}
}

// P8.2: Path, of keys that there are not.
func TestPathOfNone(t *testing.T) {
	for height := range 7 {
		k := api.Keys{Seed: "seed", Height: height, Bits: 2}
		many := 1 << height
		for _, key := range []int{-1, many, -2, many + 1, 2 * many, -many, 1 << 32, -1 << 32, math.MinInt, math.MaxInt} {
			if l, e := keys.Path(k, key); len(l) != 0 || e != api.ErrNone {
				t.Errorf("Height %d, %d: %x, %d", height, key, l, e)
			}
		}
	}
}

// P8.2: Climb, with no path, with paths longer than any Height, and with numbers that are any.
func TestClimb(t *testing.T) {
	row := anyRow(rand.New(rand.NewSource(4)), 80)
	for _, key := range numbers() {
		for many := range 10 {
			if got := keys.Climb(row[79], key, row[:many]); got != climbOf(row[79], key, row[:many]) {
				t.Errorf("%d, %d steps: %x", key, many, got)
			}
		}
		for _, many := range []int{62, 63, 64, 65, 66, 79} {
			if got := keys.Climb(row[79], key, row[:many]); got != climbOf(row[79], key, row[:many]) {
				t.Errorf("%d, %d steps: %x", key, many, got)
			}
		}
		if got := keys.Climb(row[0], key, nil); got != row[0] {
			t.Errorf("%d, no step: %x", key, got)
		}
	}
}

// P8.2: the steps by hand: an even number stands ahead, and half of one below 0 is the lower whole one.
func TestClimbByHand(t *testing.T) {
	row := anyRow(rand.New(rand.NewSource(5)), 3)
	h, a, b := row[0], row[1], row[2]
	for _, x := range []struct {
		key  int
		want api.Hash
	}{
		{0, pairOf(pairOf(h, a), b)},
		{1, pairOf(pairOf(a, h), b)},
		{2, pairOf(b, pairOf(h, a))},
		{3, pairOf(b, pairOf(a, h))},
		{4, pairOf(pairOf(h, a), b)},
		{-1, pairOf(b, pairOf(a, h))},
		{-2, pairOf(b, pairOf(h, a))},
		{-3, pairOf(pairOf(a, h), b)},
		{-4, pairOf(pairOf(h, a), b)},
		{math.MinInt, pairOf(pairOf(h, a), b)},
		{math.MaxInt, pairOf(b, pairOf(a, h))},
	} {
		if got := keys.Climb(h, x.key, []api.Hash{a, b}); got != x.want {
			t.Errorf("%d: %x", x.key, got)
		}
	}
}

// P8.4: the path of a key leads from it to the root, that of no other key does.
func TestPathLeadsToRoot(t *testing.T) {
	for height := range 7 {
		k := api.Keys{Seed: "another", Height: height, Bits: 2}
		row, root := keys.Row(k), keys.Root(k)
		for key, leaf := range row {
			path, _ := keys.Path(k, key)
			if keys.Climb(leaf, key, path) != root {
				t.Errorf("Height %d, %d: leads elsewhere", height, key)
			}
			for number, other := range row {
				if number != key && (keys.Climb(other, key, path) == root || keys.Climb(leaf, number, path) == root) {
					t.Errorf("Height %d, %d: leads to the root with %d", height, key, number)
				}
				wantNone(t, leaf, key, path, other, path)
			}
			for i := range path {
				path[i][31] ^= 1
				if keys.Climb(leaf, key, path) == root {
					t.Errorf("Height %d, %d: leads to the root, step %d changed", height, key, i)
				}
				path[i][31] ^= 1
			}
		}
	}
}

// P8.3: none, with the hash as it is: nobody knows two texts that have one.
func TestBothOfNone(t *testing.T) {
	row := anyRow(rand.New(rand.NewSource(6)), 16)
	a, b, path := row[0], row[1], row[2:8]
	changed := func(places ...int) []api.Hash {
		way := slices.Clone(path)
		for _, i := range places {
			way[i][0] ^= 0x80
		}
		return way
	}
	for _, key := range numbers() {
		wantNone(t, a, key, path, b, path)
		wantNone(t, a, key, path, a, path)
		wantNone(t, a, key, nil, b, nil)
		wantNone(t, a, key, nil, a, nil)
		for _, way := range [][]api.Hash{changed(0), changed(5), changed(0, 5), changed(1, 2, 4), changed(0, 1, 2, 3, 4, 5), path[:5], path[1:], nil} {
			wantNone(t, a, key, path, b, way)
			wantNone(t, b, key, way, a, path)
			wantNone(t, a, key, path, a, way)
		}
		// Only the order of two differs.
		wantNone(t, a, key, []api.Hash{b}, b, []api.Hash{a})
		wantNone(t, a, key, []api.Hash{b, row[9]}, b, []api.Hash{a, row[9]})
		wantNone(t, a, key, []api.Hash{row[8], row[9]}, a, []api.Hash{row[9], row[8]})
		// One leads to the other.
		wantNone(t, a, key, []api.Hash{row[8], row[9]}, keys.Climb(a, key, row[8:9]), row[9:10])
		wantNone(t, keys.Climb(a, key, path), key, nil, a, path)
	}
}
