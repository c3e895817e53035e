package keys_test

import (
	"math"
	"math/rand"
	"slices"
	"testing"

	"tabulary/api"
	"tabulary/keys"
	"tabulary/lamp"
)

// P8.1: Many, of each Height there is.
func TestMany(t *testing.T) {
	for height, want := range []int{1, 2, 4, 8, 16, 32, 64} {
		if got := keys.Many(api.Keys{Seed: "seed", Height: height, Bits: 256}); got != want {
			t.Errorf("Height %d: %d", height, got)
		}
	}
}

// P8.1: Row, of right keys.
func TestRow(t *testing.T) {
	for _, k := range rightKeys() {
		row := keys.Row(k)
		if len(row) != keys.Many(k) || !slices.Equal(row, rowOf(k)) {
			t.Errorf("%d bytes, Height %d, Bits %d: %x", len(k.Seed), k.Height, k.Bits, row)
		}
		unlike := map[api.Hash]bool{}
		for _, key := range row {
			unlike[key] = true
		}
		if len(unlike) != len(row) {
			t.Errorf("Height %d: %d keys of %d", k.Height, len(unlike), len(row))
		}
	}
}

// P8.1: Up, of no hash, of one, of two, and of longer rows, odd ones among them.
func TestUp(t *testing.T) {
	row := anyRow(rand.New(rand.NewSource(1)), 130)
	for many := range row {
		if got := keys.Up(row[:many]); len(got) != (many+1)/2 || !slices.Equal(got, upOf(row[:many])) {
			t.Errorf("of %d: %x", many, got)
		}
	}
	if got := keys.Up(nil); len(got) != 0 {
		t.Errorf("of none: %x", got)
	}
	if got := keys.Up(row[:1]); len(got) != 1 || got[0] != row[0] {
		t.Errorf("of one: %x", got)
	}
	if got := keys.Up(row[:3]); len(got) != 2 || got[0] != pairOf(row[0], row[1]) || got[1] != row[2] {
		t.Errorf("of three: %x", got)
	}
	same := []api.Hash{row[0], row[0], row[0]}
	if got := keys.Up(same); len(got) != 2 || got[0] != pairOf(row[0], row[0]) || got[1] != row[0] {
		t.Errorf("of three that are the same: %x", got)
	}
}

// P8.1: Root, of right keys; the example.
func TestRoot(t *testing.T) {
	for _, k := range rightKeys() {
		if got := keys.Root(k); got != rootOf(rowOf(k)) {
			t.Errorf("%d bytes, Height %d, Bits %d: %x", len(k.Seed), k.Height, k.Bits, got)
		}
		row := keys.Row(k)
		for len(row) > 1 {
			row = keys.Up(row)
		}
		if row[0] != keys.Root(k) {
			t.Errorf("Height %d: Up leads to %x", k.Height, row[0])
		}
	}
	k := api.Keys{Seed: "seed", Bits: 4}
	if l, e := keys.Path(k, 0); keys.Root(k) != lamp.Key(k, 0) || len(l) != 0 || e != api.OK {
		t.Errorf("the example: %x, %d", l, e)
	}
}

// P8.1: no two roots of unlike keys are the same.
func TestRootsAreUnlike(t *testing.T) {
	seen := map[api.Hash]api.Keys{}
	for _, seed := range []string{"", "a", "\x00"} {
		for height := range 7 {
			for bits := 1; bits < 4; bits++ {
				k := api.Keys{Seed: seed, Height: height, Bits: bits}
				root := keys.Root(k)
				if last, is := seen[root]; is {
					t.Errorf("%v and %v", last, k)
				}
				seen[root] = k
			}
		}
	}
}

// P8.1, P8.2: of keys that are not right nothing is told.
func TestNothingOfWrongKeys(t *testing.T) {
	for _, k := range wrongKeys() {
		if n, row, root := keys.Many(k), keys.Row(k), keys.Root(k); n != 0 || len(row) != 0 || root != (api.Hash{}) {
			t.Errorf("%d bytes, Height %d, Bits %d: %d, %x, %x", len(k.Seed), k.Height, k.Bits, n, row, root)
		}
		for _, key := range []int{-1, 0, 1, 64, math.MinInt, math.MaxInt} {
			if l, e := keys.Path(k, key); len(l) != 0 || e != api.ErrNone {
				t.Errorf("%d bytes, Height %d, Bits %d, %d: %x, %d", len(k.Seed), k.Height, k.Bits, key, l, e)
			}
		}
	}
}

// P8.1 to P8.3, R3: what is handed in stays, what lies behind it, too, and what came out stays when that is changed.
func TestNothingShared(t *testing.T) {
	row := anyRow(rand.New(rand.NewSource(3)), 12)
	kept := slices.Clone(row)
	for many := range row {
		// The cut leaves room behind it, into which nothing may be written.
		up := keys.Up(row[:many])
		keys.Climb(kept[0], 5, row[:many])
		keys.Both(kept[0], 5, row[:many], kept[1], row[:many])
		was := slices.Clone(up)
		if !slices.Equal(row, kept) {
			t.Fatalf("changed: %x", row)
		}
		for i := range row {
			row[i][0] ^= 1
		}
		if !slices.Equal(up, was) {
			t.Errorf("of %d: the row handed in is seen", many)
		}
		copy(row, kept)
		for i := range up {
			up[i] = api.Hash{}
		}
		_ = append(up, api.Hash{})
		if !slices.Equal(row, kept) {
			t.Errorf("of %d: the answer is seen", many)
		}
	}
	k := api.Keys{Seed: "seed", Height: 3, Bits: 2}
	l, _ := keys.Path(k, 5)
	leaves := keys.Row(k)
	for i := range l {
		l[i], leaves[i] = api.Hash{}, api.Hash{}
	}
	if again, _ := keys.Path(k, 5); !slices.Equal(again, pathOf(rowOf(k), 5)) || !slices.Equal(keys.Row(k), rowOf(k)) {
		t.Error("an answer is seen in a later one")
	}
}
