package grow_test

import (
	"math"
	"math/rand"
	"slices"
	"testing"

	"tabulary/api"
	"tabulary/grow"
	"tabulary/member"
)

// wantLeaf fails the test, unless Leaf answers just this root.
func wantLeaf(t *testing.T, m, n, i int, g api.Growth, leaf api.Node, path []api.Node, want api.Node) {
	t.Helper()
	if got, e := grow.Leaf(m, n, i, g, leaf, path); e != api.OK || got != want {
		t.Errorf("Leaf %d of %d to %d: %+v, %d; not %+v", i, m, n, got, e, want)
	}
}

// wantNoLeaf fails the test, unless Leaf answers just this error.
func wantNoLeaf(t *testing.T, want api.Errno, m, n, i int, g api.Growth, leaf api.Node, path []api.Node) {
	t.Helper()
	if got, e := grow.Leaf(m, n, i, g, leaf, path); e != want || got != (api.Node{}) {
		t.Errorf("Leaf %d of %d to %d, %d steps: %+v, %d; not %d", i, m, n, len(path), got, e, want)
	}
}

// P15.3: Leaf by hand: in the first peak, in a middle one, in a last one of one leaf, whose path is empty.
func TestLeafByHand(t *testing.T) {
	r := rand.New(rand.NewSource(31))
	l := anyRow(r, 11)
	two := func(i int) api.Node { return joinOf(l[i], l[i+1]) }
	four := joinOf(two(0), two(2))
	root := rootOf(l)
	g := api.Growth{Old: []api.Node{four, two(4), l[6]}, New: []api.Node{l[7], two(8), l[10]}}
	for i, path := range [][]api.Node{
		{l[1], two(2)}, {l[0], two(2)}, {l[3], two(0)}, {l[2], two(0)}, {l[5]}, {l[4]}, nil,
	} {
		wantLeaf(t, 7, 11, i, g, l[i], path, root)
	}
	wantLeaf(t, 7, 11, 6, g, l[6], []api.Node{}, root)
	wantLeaf(t, 1, 1, 0, api.Growth{Old: l[:1]}, l[0], nil, l[0])
	wantLeaf(t, 1, 2, 0, api.Growth{Old: l[:1], New: l[1:2]}, l[0], nil, two(0))
	wantLeaf(t, 2, 2, 1, api.Growth{Old: []api.Node{two(0)}}, l[1], l[:1], two(0))
}

// P15.3: Leaf for each i of each m of small rows, by chapter 14's path in its peak; for some of great ones.
func TestLeaf(t *testing.T) {
	l := leavesOf(rand.New(rand.NewSource(32)), 4096)
	for _, x := range slices.Concat(small(17), few()) {
		m, n := x[0], x[1]
		g, _ := grow.Prove(l[:n], m)
		root := rootOf(l[:n])
		for i := range m {
			if m > 17 && i%499 != 0 && i != m-1 && i != 2047 && i != 2048 {
				continue
			}
			_, at, size := peakOf(i, m)
			path := pathIn(l[at:at+size], i-at)
			wantLeaf(t, m, n, i, g, l[i], path, root)
			if way, e := member.Path(l[at:at+size], i-at); e != api.OK || !slices.Equal(way, path) {
				t.Errorf("chapter 14's path of %d in its peak: %d steps, %d", i, len(way), e)
			}
		}
	}
}

// anyLeaf is a proof of any nodes, but for the peak that an i-th leaf, any one, leads to by any path.
func anyLeaf(r *rand.Rand, m, n, i int) (api.Growth, api.Node, []api.Node) {
	k, at, size := peakOf(i, m)
	many := 0
	for 1<<many < size {
		many++
	}
	g, leaf, path := anyProof(r, m, n), anyNode(r), anyRow(r, many)
	g.Old[k] = topIn(leaf, i-at, path)
	return g, leaf, path
}

// P15.3: Leaf of any nodes and steps: the new root hangs on the proof alone, whatever stands in its other nodes.
func TestLeafOfAnyNodes(t *testing.T) {
	r := rand.New(rand.NewSource(33))
	for _, x := range slices.Concat(small(12), few()[2:5]) {
		m, n := x[0], x[1]
		for _, i := range []int{0, 1, m / 2, m - 2, m - 1} {
			if i < 0 || i >= m {
				continue
			}
			g, leaf, path := anyLeaf(r, m, n, i)
			_, root := rootsOf(m, n, g)
			wantLeaf(t, m, n, i, g, leaf, path, root)
			own, _, _ := peakOf(i, m)
			for _, other := range changed(g) {
				if other.Old[own] != g.Old[own] {
					wantNoLeaf(t, api.ErrProof, m, n, i, other, leaf, path)
					continue
				}
				_, root := rootsOf(m, n, other)
				wantLeaf(t, m, n, i, other, leaf, path, root)
			}
		}
	}
}

// P15.3: i below 0, just m, above m, m 0: ErrArg, whatever the leaf and the path.
func TestLeafOfWrongPlaces(t *testing.T) {
	r := rand.New(rand.NewSource(34))
	steps := anyRow(r, 14)
	for _, x := range slices.Concat(small(10), few()) {
		m, n := x[0], x[1]
		g := anyProof(r, m, n)
		for _, i := range []int{-1, -2, -m - 1, m, m + 1, n + 1, 2*m + 1, 4097, 1 << 32, 1<<32 + m, -1 << 32, 1 << 62, math.MinInt, math.MinInt + 1, math.MaxInt - 1, math.MaxInt} {
			for many := range steps {
				wantNoLeaf(t, api.ErrArg, m, n, i, g, steps[0], steps[:many])
			}
			for _, leaf := range slices.Concat(g.Old, g.New) {
				wantNoLeaf(t, api.ErrArg, m, n, i, g, leaf, nil)
			}
		}
	}
	// All that is behind the old ones is no leaf of theirs, though it is one of the new ones.
	l := anyRow(r, 11)
	for m := range l {
		for i := m; i < len(l); i++ {
			wantNoLeaf(t, api.ErrArg, m, len(l), i, proofOf(l, m), l[i], nil)
		}
	}
}

// P15.3: Roots' error comes ahead of that of a wrong place or path.
func TestLeafOfNoRoots(t *testing.T) {
	r := rand.New(rand.NewSource(35))
	l := anyRow(r, 11)
	g := proofOf(l, 6)
	path := pathIn(l[4:6], 1)
	for _, i := range []int{5, 0, -1, 6, 7, 11, math.MinInt, math.MaxInt} {
		for _, way := range [][]api.Node{path, nil, l} {
			for _, x := range wrongPairs() {
				wantNoLeaf(t, api.ErrArg, x[0], x[1], i, g, l[5], way)
			}
			for _, other := range miscounted(g, anyNode(r)) {
				wantNoLeaf(t, api.ErrProof, 6, 11, i, other, l[5], way)
			}
			wantNoLeaf(t, api.ErrProof, 6, 12, i, g, l[5], way)
			wantNoLeaf(t, api.ErrProof, 5, 11, i, g, l[5], way)
		}
	}
}

// P15.3: a path of one step too few, one too many, of none, of many more: ErrProof.
func TestLeafOfWrongPaths(t *testing.T) {
	r := rand.New(rand.NewSource(36))
	for _, x := range slices.Concat(small(14), few()) {
		m, n := x[0], x[1]
		for i := range min(m, 14) {
			g, leaf, path := anyLeaf(r, m, n, i)
			steps := slices.Concat(path, anyRow(r, 18))
			for many := range steps {
				if many != len(path) {
					wantNoLeaf(t, api.ErrProof, m, n, i, g, leaf, steps[:many])
				}
			}
			// Steps that lead to the root of all are too many in the peak.
			if k, _, _ := peakOf(i, m); len(g.Old) > 1 && k == 0 {
				wantNoLeaf(t, api.ErrProof, m, n, i, g, leaf, append(slices.Clone(path), g.Old[1]))
			}
		}
	}
}

// P15.3: another leaf, a changed step, two steps exchanged, another place, the path of another peak: ErrProof.
func TestLeafOfChanged(t *testing.T) {
	r := rand.New(rand.NewSource(37))
	for _, x := range [][2]int{{1, 1}, {1, 3}, {2, 2}, {3, 3}, {6, 11}, {7, 11}, {13, 20}, {8, 8}, {15, 16}, {12, 4096}, {11, 11}} {
		m, n := x[0], x[1]
		l := anyRow(r, m)
		g := anyProof(r, m, n)
		g.Old = proofOf(l, m).Old
		for i := range m {
			k, at, size := peakOf(i, m)
			path := pathIn(l[at:at+size], i-at)
			for _, other := range append(changes(l[i]), api.Node{}, anyNode(r)) {
				wantNoLeaf(t, api.ErrProof, m, n, i, g, other, path)
			}
			for j, step := range path {
				for _, other := range append(changes(step), api.Node{}, l[i], g.Old[k]) {
					way := slices.Clone(path)
					way[j] = other
					wantNoLeaf(t, api.ErrProof, m, n, i, g, l[i], way)
				}
				for h := range j {
					way := slices.Clone(path)
					way[h], way[j] = way[j], way[h]
					wantNoLeaf(t, api.ErrProof, m, n, i, g, l[i], way)
				}
			}
			for j := range m {
				if j == i {
					continue
				}
				_, from, many := peakOf(j, m)
				way := pathIn(l[from:from+many], j-from)
				wantNoLeaf(t, api.ErrProof, m, n, j, g, l[i], path)
				wantNoLeaf(t, api.ErrProof, m, n, i, g, l[j], path)
				wantNoLeaf(t, api.ErrProof, m, n, i, g, l[j], way)
			}
		}
	}
}

// P15.3: a peak's node is no leaf of it, but where it has one alone; nor is one of New.
func TestLeafOfNodes(t *testing.T) {
	r := rand.New(rand.NewSource(38))
	for _, x := range [][2]int{{6, 11}, {7, 11}, {8, 8}, {1, 2}, {15, 16}} {
		m, n := x[0], x[1]
		g := anyProof(r, m, n)
		_, root := rootsOf(m, n, g)
		for i := range m {
			k, _, size := peakOf(i, m)
			for j, node := range slices.Concat(g.Old, g.New) {
				if j == k && size == 1 {
					wantLeaf(t, m, n, i, g, node, nil, root)
				} else {
					wantNoLeaf(t, api.ErrProof, m, n, i, g, node, nil)
				}
			}
		}
	}
}

// P15.3, R3: Leaf writes neither into a proof nor into a path, nor into the room behind them.
func TestLeafChangesNothing(t *testing.T) {
	r := rand.New(rand.NewSource(39))
	for _, x := range slices.Concat(small(12), few()) {
		m, n := x[0], x[1]
		for i := range min(m, 12) {
			g, leaf, path := anyLeaf(r, m, n, i)
			one, two, three := slices.Concat(g.Old, anyRow(r, 20)), slices.Concat(g.New, anyRow(r, 20)), slices.Concat(path, anyRow(r, 20))
			keptOne, keptTwo, keptThree := slices.Clone(one), slices.Clone(two), slices.Clone(three)
			h := api.Growth{Old: one[:len(g.Old)], New: two[:len(g.New)]}
			a, _ := grow.Leaf(m, n, i, h, leaf, three[:len(path)])
			grow.Leaf(m, n, i, h, leaf, three[:len(path)+1])
			grow.Leaf(m, n, -1, h, leaf, three[:len(path)])
			b, _ := grow.Leaf(m, n, i, h, leaf, three[:len(path)])
			if !slices.Equal(one, keptOne) || !slices.Equal(two, keptTwo) || !slices.Equal(three, keptThree) || a != b {
				t.Errorf("of %d of %d to %d: changed", i, m, n)
			}
		}
	}
}
