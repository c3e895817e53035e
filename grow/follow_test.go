package grow_test

import (
	"math/rand"
	"slices"
	"testing"

	"tabulary/api"
	"tabulary/grow"
	"tabulary/member"
	"tabulary/tree"
)

// P15.4: what is proved is checked: by the root of the first leaves, and by that of all.
func TestProofIsChecked(t *testing.T) {
	l := leavesOf(rand.New(rand.NewSource(41)), 4096)
	roots := map[int]api.Node{}
	all := slices.Concat(small(40), great())
	for _, x := range all {
		for _, n := range x {
			if _, is := roots[n]; !is {
				roots[n] = tree.Root(l[:n])
			}
		}
	}
	for _, x := range all {
		m, n := x[0], x[1]
		g, e := grow.Prove(l[:n], m)
		if e != api.OK {
			t.Fatalf("Prove of %d of %d: %d", m, n, e)
		}
		wantRoots(t, m, n, g, roots[m], roots[n])
		if other := (m + 1) % (n + 1); other != m {
			wantUnproved(t, "another old root", roots[other], m, roots[n], n, g)
		}
		if again, _ := grow.Prove(l[:n], m); !grow.Same(g, again) {
			t.Errorf("Prove of %d of %d: another one", m, n)
		}
	}
}

// P15.4: where a tree grew twice, both proofs are checked by the root between, and so is that of all at once.
func TestProofsOneBehindTheOther(t *testing.T) {
	l := leavesOf(rand.New(rand.NewSource(42)), 20)
	for n := range len(l) + 1 {
		for k := range n + 1 {
			for m := range k + 1 {
				one, _ := grow.Prove(l[:k], m)
				two, _ := grow.Prove(l[:n], k)
				all, _ := grow.Prove(l[:n], m)
				a, between, _ := grow.Roots(m, k, one)
				again, b, _ := grow.Roots(k, n, two)
				first, last, _ := grow.Roots(m, n, all)
				if between != again || a != first || b != last {
					t.Errorf("from %d by %d to %d", m, k, n)
				}
			}
		}
	}
}

// P15.4: a tree of which an old leaf was changed, left out or put in isn't proved to have grown from the old root; one of which a new leaf was is, to another new root.
func TestProofOfChanged(t *testing.T) {
	r := rand.New(rand.NewSource(43))
	for _, x := range small(14) {
		m, n := x[0], x[1]
		l := leavesOf(r, n)
		old, new := tree.Root(l[:m]), tree.Root(l)
		for i := range n {
			other := slices.Clone(l)
			other[i] = changes(l[i])[i%14]
			g, _ := grow.Prove(other, m)
			top := tree.Root(other)
			wantUnproved(t, "a leaf changed", old, m, new, n, g)
			if i < m {
				wantUnproved(t, "an old leaf changed", old, m, top, n, g)
			} else if e := grow.Check(old, m, top, n, g); e != api.OK {
				t.Errorf("a new leaf changed, of %d to %d: %d", m, n, e)
			}
			if i < m && n > m {
				without := slices.Delete(slices.Clone(l), i, i+1)
				g, _ := grow.Prove(without, m)
				wantUnproved(t, "an old leaf left out", old, m, tree.Root(without), n-1, g)
			}
			if i < m {
				with := slices.Insert(slices.Clone(l), i, anyNode(r))
				g, _ := grow.Prove(with, m)
				wantUnproved(t, "a leaf put in", old, m, tree.Root(with), n+1, g)
			}
		}
	}
}

// P15.4: a proof hangs on no other leaves: of the same proof there is one old root and one new one, whatever was proved between, and wherever it is kept.
func TestOneRootOfAProof(t *testing.T) {
	r := rand.New(rand.NewSource(44))
	type told struct {
		m, n     int
		g        api.Growth
		old, new api.Node
	}
	var all []told
	for _, x := range slices.Concat(small(12), great()) {
		m, n := x[0], x[1]
		g := anyProof(r, m, n)
		old, new, _ := grow.Roots(m, n, g)
		all = append(all, told{m, n, g, old, new})
	}
	r.Shuffle(len(all), func(i, k int) { all[i], all[k] = all[k], all[i] })
	for _, x := range all {
		other := api.Growth{Old: append(make([]api.Node, 0, 99), x.g.Old...), New: slices.Clone(x.g.New)}
		if !grow.Same(x.g, other) {
			t.Fatalf("of %d to %d: unlike", x.m, x.n)
		}
		wantRoots(t, x.m, x.n, other, x.old, x.new)
	}
}

// P15.4: what stands below a proof's nodes isn't seen: leaves of other ones' nodes have the same proof, and the same roots.
func TestProofAboveNodes(t *testing.T) {
	l := leavesOf(rand.New(rand.NewSource(45)), 24)
	var pairs []api.Node
	for i := 0; i < len(l); i += 2 {
		pairs = append(pairs, tree.Join(l[i], l[i+1]))
	}
	for n := range len(pairs) + 1 {
		for m := range n + 1 {
			one, _ := grow.Prove(pairs[:n], m)
			two, _ := grow.Prove(l[:2*n], 2*m)
			if !grow.Same(one, two) {
				t.Fatalf("of %d to %d: unlike", m, n)
			}
			a, b, _ := grow.Roots(m, n, one)
			c, d, _ := grow.Roots(2*m, 2*n, two)
			if a != c || b != d {
				t.Errorf("of %d to %d: other roots", m, n)
			}
		}
	}
}

// P15.4: each old leaf, of one that was deleted too, leads to the new root by what is proved, and by its path in its peak.
func TestLeafOfWhatIsProved(t *testing.T) {
	b := api.Brief{First: 1, Last: 1, Grave: 1, From: 1, Many: 1}
	var l []api.Node
	for _, text := range []string{"a", "b", "c", "d", "e", "f", "g", "h", "i"} {
		l = append(l, tree.Leaf(text, b))
	}
	for m := range len(l) + 1 {
		g, _ := grow.Prove(l, m)
		for i := range m {
			_, at, size := peakOf(i, m)
			path, e := member.Path(l[at:at+size], i-at)
			if e != api.OK {
				t.Fatal(e)
			}
			wantLeaf(t, m, len(l), i, g, tree.Leaf(string(rune('a'+i)), b), path, tree.Root(l))
			wantNoLeaf(t, api.ErrProof, m, len(l), i, g, tree.Leaf("another", b), path)
		}
	}
}
