package tree_test

import (
	"math/rand"
	"slices"
	"testing"

	"tabulary/api"
	"tabulary/brief"
	"tabulary/tree"
)

// leavesOf are leaves of so many events, with what is told of each, none now and then.
func leavesOf(r *rand.Rand, many int) []api.Node {
	var l []api.Node
	for i := range many {
		e := api.Event{Grave: r.Intn(8), From: r.Intn(24), At: int64(r.Uint64())}
		if r.Intn(9) == 0 {
			e.From = 24 // there is no such one: of none
		}
		l = append(l, tree.Leaf(string([]byte{byte(i >> 8), byte(i)}), brief.Of(e, r.Intn(5) == 0)))
	}
	return l
}

// P13.4: Fold of Peaks of leaves is their Root.
func TestFoldOfPeaks(t *testing.T) {
	r := rand.New(rand.NewSource(41))
	l := leavesOf(r, 4200)
	for many := range 130 {
		if tree.Fold(tree.Peaks(l[:many])) != tree.Root(l[:many]) {
			t.Errorf("of %d", many)
		}
	}
	for _, many := range []int{255, 256, 257, 1000, 1023, 1024, 1025, 2047, 2048, 2049, 4095, 4096} {
		if tree.Fold(tree.Peaks(l[:many])) != tree.Root(l[:many]) {
			t.Errorf("of %d", many)
		}
	}
	// Of more the peaks are those of the first 4096 alone.
	if got := tree.Fold(tree.Peaks(l)); got != tree.Root(l[:4096]) || got == tree.Root(l) {
		t.Errorf("of %d: %+v", len(l), got)
	}
}

// P13.4: so it is of nodes of any brief, right or not.
func TestFoldOfPeaksOfWrongBriefs(t *testing.T) {
	r := rand.New(rand.NewSource(42))
	var l []api.Node
	for _, b := range briefs(r) {
		l = append(l, api.Node{H: anyHash(r), B: b}, api.Node{B: b})
	}
	for range 40 {
		r.Shuffle(len(l), func(i, k int) { l[i], l[k] = l[k], l[i] })
		many := r.Intn(len(l) + 1)
		if tree.Fold(tree.Peaks(l[:many])) != tree.Root(l[:many]) {
			t.Errorf("of %d", many)
		}
	}
}

// P13.4: the sizes of Peaks are Sizes; each peak that is added is one of Peaks with one leaf more, and leaves those ahead as they were.
func TestPeaksGrow(t *testing.T) {
	r := rand.New(rand.NewSource(43))
	l := leavesOf(r, 200)
	var p []api.Peak
	var all [][]api.Peak
	for many, leaf := range l {
		if !slices.Equal(p, tree.Peaks(l[:many])) || !slices.Equal(sizesIn(p), tree.Sizes(many)) {
			t.Errorf("of %d: %d", many, sizesIn(p))
		}
		next, e := tree.Add(p, api.Peak{Size: 1, N: leaf})
		if e != api.OK {
			t.Fatalf("of %d: %d", many, e)
		}
		all, p = append(all, p), next
	}
	for many, p := range all {
		if !slices.Equal(p, peaksOf(l[:many])) {
			t.Errorf("of %d: changed behind", many)
		}
	}
}

// P13.4: greater peaks that are added at their places come to the same root as their leaves do.
func TestGreaterPeaks(t *testing.T) {
	r := rand.New(rand.NewSource(44))
	l := leavesOf(r, 300)
	for range 300 {
		var p []api.Peak
		at := 0
		for at < 200 {
			size := 1 << r.Intn(7)
			for size > 1 && at%size != 0 {
				size /= 2
			}
			next, e := tree.Add(p, api.Peak{Size: size, N: tree.Root(l[at : at+size])})
			if e != api.OK {
				t.Fatalf("%d behind %d: %d", size, at, e)
			}
			at, p = at+size, next
		}
		if !slices.Equal(p, tree.Peaks(l[:at])) || tree.Fold(p) != tree.Root(l[:at]) {
			t.Errorf("of %d: %d", at, sizesIn(p))
		}
	}
}

// P13.4: what the root tells is what is told of all.
func TestRootTellsAll(t *testing.T) {
	r := rand.New(rand.NewSource(45))
	l := leavesOf(r, 1100)
	var told []api.Brief
	for _, n := range l {
		told = append(told, n.B)
	}
	for range 100 {
		many := r.Intn(len(l) + 1)
		if r.Intn(2) == 0 {
			many = r.Intn(40)
		}
		root, all := tree.Root(l[:many]), brief.All(told[:many])
		if root.B != all || tree.Fold(tree.Peaks(l[:many])).B != all || !brief.Right(all) {
			t.Errorf("of %d: %+v, not %+v", many, root.B, all)
		}
	}
	if tree.Root(nil).B != brief.None() || tree.Fold(nil).B != brief.None() {
		t.Error("of none")
	}
}

// P13.4: two trees of as many leaves have one root just if their leaves are the same.
func TestRootsToldApart(t *testing.T) {
	r := rand.New(rand.NewSource(46))
	for range 300 {
		l := leavesOf(r, 1+r.Intn(20))
		other := slices.Clone(l)
		i := r.Intn(len(l))
		other[i].H[r.Intn(32)] ^= 1
		if r.Intn(2) == 0 {
			other[i] = l[i]
			other[i].B.Many += 7
		}
		a, b := tree.Root(l), tree.Root(other)
		if len(l) > 1 && a.H == b.H || a == b || tree.Root(slices.Clone(l)) != a {
			t.Errorf("of %d: %+v, %+v", len(l), a, b)
		}
	}
}
