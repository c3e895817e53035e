package member_test

import (
	"math/bits"
	"math/rand"
	"slices"
	"testing"

	"tabulary/api"
	"tabulary/member"
	"tabulary/tree"
)

// P14.4: each leaf's path is checked against the root of the leaves, and no leaf's is with another one.
func TestPathIsChecked(t *testing.T) {
	r := rand.New(rand.NewSource(31))
	l := leavesOf(r, 4096)
	for _, n := range slices.Concat(small(), great()) {
		root := tree.Root(l[:n])
		for _, i := range placesOf(n) {
			path, e := member.Path(l[:n], i)
			if e != api.OK {
				t.Fatalf("Path of %d of %d: %d", i, n, e)
			}
			if e := member.Check(root, l[i], i, n, path); e != api.OK {
				t.Errorf("of %d of %d: %d", i, n, e)
			}
			if top, e := member.Climb(l[i], i, n, path); e != api.OK || top != root {
				t.Errorf("from %d of %d: %+v, %d", i, n, top, e)
			}
			if e := member.Check(root, l[(i+1)%len(l)], i, n, path); e != api.ErrProof {
				t.Errorf("another one, of %d of %d: %d", i, n, e)
			}
			if k := (i + 1) % n; k != i && member.Check(root, l[i], k, n, path) != api.ErrProof {
				t.Errorf("of %d of %d, at %d", i, n, k)
			}
		}
	}
}

// P14.4: with another leaf in its place a path leads to the root of the leaves with that one, as the path hangs on the others alone.
func TestPathWithAnotherLeaf(t *testing.T) {
	r := rand.New(rand.NewSource(32))
	for _, n := range []int{1, 2, 3, 4, 5, 6, 7, 8, 9, 15, 16, 17, 31, 33, 63, 64, 65, 100} {
		l := leavesOf(r, n)
		root := tree.Root(l)
		for _, i := range somePlaces(n) {
			path, _ := member.Path(l, i)
			for _, leaf := range append(changes(l[i]), anyNode(r), api.Node{}, tree.Leaf("another", l[i].B), tree.Gone(anyHash(r), l[i].B)) {
				other := slices.Clone(l)
				other[i] = leaf
				want := tree.Root(other)
				if top, e := member.Climb(leaf, i, n, path); e != api.OK || top != want || want == root {
					t.Errorf("from %d of %d: %+v, %d; not %+v", i, n, top, e, want)
				}
				if way, e := member.Path(other, i); e != api.OK || !slices.Equal(way, path) {
					t.Errorf("Path of %d of %d hangs on the leaf: %d", i, n, e)
				}
				if member.Check(want, leaf, i, n, path) != api.OK || member.Check(root, leaf, i, n, path) != api.ErrProof || member.Check(want, l[i], i, n, path) != api.ErrProof {
					t.Errorf("Check of %d of %d", i, n)
				}
			}
		}
	}
}

// P14.4: what was deleted is led to the same root, as its leaf is the same.
func TestPathOfGone(t *testing.T) {
	b := api.Brief{First: 1, Last: 1, Grave: 1, From: 1, Many: 1}
	l := []api.Node{tree.Leaf("a", b), tree.Leaf("b", b), tree.Leaf("c", b)}
	root := tree.Root(l)
	for i, text := range []string{"a", "b", "c"} {
		path, _ := member.Path(l, i)
		if member.Check(root, tree.Leaf(text, b), i, 3, path) != api.OK || member.Check(root, tree.Leaf(text+" ", b), i, 3, path) != api.ErrProof {
			t.Errorf("of %q", text)
		}
	}
}

// P14.4: a path has at most as many steps as n less 1 has bits, and the first leaf's has just as many.
func TestBitsOfPaths(t *testing.T) {
	for n := 1; n <= api.MaxEvents; n++ {
		most := bits.Len(uint(n - 1))
		if got := member.Steps(0, n); got != most {
			t.Errorf("Steps(0, %d): %d, not %d", n, got, most)
		}
		for _, i := range somePlaces(n) {
			if got := member.Steps(i, n); got < 0 || got > most {
				t.Errorf("Steps(%d, %d): %d, above %d", i, n, got, most)
			}
		}
	}
	l := make([]api.Node, 16385)
	for _, n := range []int{1, 2, 3, 4097, 8192, 16385} {
		for _, i := range somePlaces(n) {
			if path, e := member.Path(l[:n], i); e != api.OK || len(path) > bits.Len(uint(n-1)) {
				t.Errorf("Path of %d of %d: %d steps, %d", i, n, len(path), e)
			}
		}
	}
}
