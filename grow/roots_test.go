package grow_test

import (
	"math/rand"
	"slices"
	"testing"

	"tabulary/api"
	"tabulary/grow"
	"tabulary/tree"
)

// P15.2: Roots and Check by hand, of any nodes: where both are 0, m is 0, m is n, and between.
func TestRootsByHand(t *testing.T) {
	r := rand.New(rand.NewSource(11))
	l := anyRow(r, 5)
	a, b, c, d, e := l[0], l[1], l[2], l[3], l[4]
	none := noneOf()
	for _, x := range []struct {
		m, n       int
		many       int // how many of the nodes are of Old
		root, grew api.Node
	}{
		{0, 1, 0, none, a}, {1, 1, 1, a, a}, {0, 4, 0, none, a}, {0, 4096, 0, none, a}, {4096, 4096, 1, a, a}, {8, 8, 1, a, a},
		{0, 3, 0, none, joinOf(a, b)}, {3, 3, 2, joinOf(a, b), joinOf(a, b)}, {1, 2, 1, a, joinOf(a, b)}, {2, 3, 1, a, joinOf(a, b)}, {2048, 4096, 1, a, joinOf(a, b)}, {4, 5, 1, a, joinOf(a, b)},
		{0, 7, 0, none, joinOf(a, joinOf(b, c))}, {7, 7, 3, joinOf(a, joinOf(b, c)), joinOf(a, joinOf(b, c))}, {1, 3, 1, a, joinOf(joinOf(a, b), c)}, {1, 4, 1, a, joinOf(joinOf(a, b), c)},
		{3, 4, 2, joinOf(a, b), joinOf(a, joinOf(b, c))}, {4, 7, 1, a, joinOf(a, joinOf(b, c))}, {4, 12, 1, a, joinOf(joinOf(a, b), c)}, {6, 7, 2, joinOf(a, b), joinOf(a, joinOf(b, c))},
		{3, 8, 2, joinOf(a, b), joinOf(joinOf(a, joinOf(b, c)), d)}, {5, 8, 2, joinOf(a, b), joinOf(a, joinOf(joinOf(b, c), d))}, {5, 7, 2, joinOf(a, b), joinOf(a, joinOf(joinOf(b, c), d))},
		{6, 11, 2, joinOf(a, b), joinOf(joinOf(a, joinOf(b, c)), joinOf(d, e))}, {7, 9, 3, joinOf(a, joinOf(b, c)), joinOf(joinOf(a, joinOf(b, joinOf(c, d))), e)},
	} {
		g := api.Growth{Old: l[:x.many], New: l[x.many : len(sizesOf(x.m))+len(coverOf(x.m, x.n))]}
		wantRoots(t, x.m, x.n, g, x.root, x.grew)
	}
	wantRoots(t, 0, 0, api.Growth{}, none, none)
	wantRoots(t, 0, 0, api.Growth{Old: []api.Node{}, New: []api.Node{}}, none, none)
}

// P15.2: Roots and Check of any nodes, of all small m and n, and of great ones.
func TestRoots(t *testing.T) {
	r := rand.New(rand.NewSource(12))
	for _, x := range slices.Concat(small(50), great()) {
		m, n := x[0], x[1]
		g := anyProof(r, m, n)
		old, new := rootsOf(m, n, g)
		wantRoots(t, m, n, g, old, new)
	}
}

// P15.2: Roots is as chapter 13's Fold of the peaks, and of these with all of New added.
func TestRootsByPeaks(t *testing.T) {
	r := rand.New(rand.NewSource(13))
	for _, x := range slices.Concat(small(20), great()) {
		m, n := x[0], x[1]
		g := anyProof(r, m, n)
		var p []api.Peak
		for k, size := range tree.Sizes(m) {
			p = append(p, api.Peak{Size: size, N: g.Old[k]})
		}
		old := tree.Fold(p)
		for k, size := range grow.Cover(m, n) {
			var e api.Errno
			if p, e = tree.Add(p, api.Peak{Size: size, N: g.New[k]}); e != api.OK {
				t.Fatalf("of %d to %d: %d is refused behind what is ahead", m, n, size)
			}
		}
		wantRoots(t, m, n, g, old, tree.Fold(p))
	}
}

// P15.2: m below 0 or above n, or n above 4096: ErrArg, of a proof of any number of nodes, also of one that is right elsewhere.
func TestRootsOfWrongNumbers(t *testing.T) {
	r := rand.New(rand.NewSource(14))
	rows := anyRow(r, 40)
	proofs := []api.Growth{{}, proofOf(rows[:11], 6), proofOf(rows[:11], 0), proofOf(rows[:11], 11), proofOf(rows[:8], 8), anyProof(r, 4095, 4096), anyProof(r, 0, 4095), anyProof(r, 1, 4095)}
	for many := range 15 {
		proofs = append(proofs, api.Growth{Old: rows[:many], New: rows[many:20]}, api.Growth{Old: rows[:many]}, api.Growth{New: rows[:many]})
	}
	for _, x := range wrongPairs() {
		for _, g := range proofs {
			wantNoRoots(t, api.ErrArg, x[0], x[1], g)
		}
	}
}

// P15.2: a node too few or too many in Old or in New, or one taken from the one and put into the other: ErrProof.
func TestRootsOfWrongMany(t *testing.T) {
	r := rand.New(rand.NewSource(15))
	for _, x := range slices.Concat(small(17), great()) {
		m, n := x[0], x[1]
		g := anyProof(r, m, n)
		old, new := rootsOf(m, n, g)
		for _, other := range miscounted(g, anyNode(r)) {
			wantNoRoots(t, api.ErrProof, m, n, other)
			wantUnproved(t, "another number of nodes", old, m, new, n, other)
		}
	}
	for many := range 30 {
		for more := range 30 {
			if many != 2 || more != 3 {
				wantNoRoots(t, api.ErrProof, 6, 11, api.Growth{Old: make([]api.Node, many), New: make([]api.Node, more)})
			}
		}
	}
}

// P15.2: another old root, another new one: changed in its hash or in a number of its brief, of none, any one; the two exchanged: ErrProof.
func TestCheckOfAnotherRoot(t *testing.T) {
	r := rand.New(rand.NewSource(16))
	for _, x := range slices.Concat(small(12), few()) {
		m, n := x[0], x[1]
		g := anyProof(r, m, n)
		old, new := rootsOf(m, n, g)
		for _, other := range append(changes(old), api.Node{}, api.Node{H: old.H, B: anyNode(r).B}, api.Node{H: anyHash(r), B: old.B}, noneOf(), anyNode(r)) {
			if other != old {
				wantUnproved(t, "another old root", other, m, new, n, g)
			}
		}
		for _, other := range append(changes(new), api.Node{}, api.Node{H: new.H, B: anyNode(r).B}, api.Node{H: anyHash(r), B: new.B}, noneOf(), anyNode(r)) {
			if other != new {
				wantUnproved(t, "another new root", old, m, other, n, g)
				wantUnproved(t, "another one, as both roots", other, m, other, n, g)
			}
		}
		if old != new {
			wantUnproved(t, "roots exchanged", new, m, old, n, g)
			wantUnproved(t, "the old root as both", old, m, old, n, g)
			wantUnproved(t, "the new root as both", new, m, new, n, g)
		}
	}
}

// P15.2: a node of Old or of New that is changed in its hash or in a number of its brief, or two that are exchanged: ErrProof.
func TestCheckOfChanged(t *testing.T) {
	r := rand.New(rand.NewSource(17))
	for _, x := range slices.Concat(small(12), few()[2:8]) {
		m, n := x[0], x[1]
		g := anyProof(r, m, n)
		old, new := rootsOf(m, n, g)
		for _, other := range append(changed(g), exchanged(g)...) {
			if isSame(g, other) {
				continue
			}
			wantUnproved(t, "another node", old, m, new, n, other)
			one, two := rootsOf(m, n, other)
			wantRoots(t, m, n, other, one, two)
		}
	}
}

// P15.2: a proof of another m or another n, of as many nodes or not: ErrProof.
func TestCheckElsewhere(t *testing.T) {
	l := leavesOf(rand.New(rand.NewSource(18)), 16)
	for _, x := range small(16) {
		m, n := x[0], x[1]
		g := proofOf(l[:n], m)
		old, new := rootOf(l[:m]), rootOf(l[:n])
		for k := range n + 1 {
			if k != m {
				wantUnproved(t, "the proof of another m", old, m, new, n, proofOf(l[:n], k))
				wantUnproved(t, "the root of another m", rootOf(l[:k]), m, new, n, g)
			}
		}
		for k := m; k <= 16; k++ {
			if k != n {
				wantUnproved(t, "the proof of another n", old, m, new, n, proofOf(l[:k], m))
				wantUnproved(t, "the root of another n", old, m, rootOf(l[:k]), n, g)
			}
		}
	}
}

// wantSame fails the test, unless Same answers just this, the two exchanged, too.
func wantSame(t *testing.T, a, b api.Growth, want bool) {
	t.Helper()
	if grow.Same(a, b) != want || grow.Same(b, a) != want {
		t.Errorf("Same of %d and %d nodes, and %d and %d: not %v", len(a.Old), len(a.New), len(b.Old), len(b.New), want)
	}
}

// P15.2: Same of proofs that are the same, node by node, and of empty ones, nil or not.
func TestSame(t *testing.T) {
	r := rand.New(rand.NewSource(19))
	wantSame(t, api.Growth{}, api.Growth{}, true)
	wantSame(t, api.Growth{}, api.Growth{Old: []api.Node{}, New: make([]api.Node, 0, 4)}, true)
	for many := range 5 {
		for more := range 5 {
			g := api.Growth{Old: anyRow(r, many), New: anyRow(r, more)}
			wantSame(t, g, g, true)
			wantSame(t, g, copyOf(g), true)
			wantSame(t, g, api.Growth{Old: append(make([]api.Node, 0, 20), g.Old...), New: append([]api.Node{}, g.New...)}, true)
		}
	}
}

// P15.2: Same of unlike proofs: a node changed, two exchanged, one more, one fewer, one of Old in New, the rows exchanged.
func TestNotSame(t *testing.T) {
	r := rand.New(rand.NewSource(20))
	for many := range 4 {
		for more := range 4 {
			g := api.Growth{Old: anyRow(r, many), New: anyRow(r, more)}
			for _, other := range slices.Concat(changed(g), exchanged(g)) {
				if !isSame(g, other) {
					wantSame(t, g, other, false)
				}
			}
			for _, node := range []api.Node{{}, anyNode(r)} {
				for _, other := range miscounted(g, node) {
					wantSame(t, g, other, false)
				}
			}
			if many+more > 0 {
				wantSame(t, g, api.Growth{Old: g.New, New: g.Old}, false)
				wantSame(t, g, api.Growth{}, false)
			}
		}
	}
}

// P15.2, R3: Roots, Check and Same write neither into a proof nor into the room behind its rows.
func TestRootsChangeNothing(t *testing.T) {
	r := rand.New(rand.NewSource(21))
	for _, x := range slices.Concat(small(20), great()) {
		m, n := x[0], x[1]
		many, more := len(sizesOf(m)), len(coverOf(m, n))
		one, two := anyRow(r, many+20), anyRow(r, more+20)
		keptOne, keptTwo := slices.Clone(one), slices.Clone(two)
		g := api.Growth{Old: one[:many], New: two[:more]}
		a, b, _ := grow.Roots(m, n, g)
		grow.Check(a, m, b, n, g)
		grow.Check(b, m, a, n, g)
		grow.Same(g, api.Growth{Old: two[:more], New: one[:many]})
		grow.Roots(m, n, api.Growth{Old: one[:many+1], New: two[:more]})
		grow.Roots(m, n, api.Growth{Old: one[:many], New: two[:more+1]})
		c, d, _ := grow.Roots(m, n, g)
		if !slices.Equal(one, keptOne) || !slices.Equal(two, keptTwo) || a != c || b != d {
			t.Errorf("of %d to %d: changed", m, n)
		}
	}
}
