package member_test

import (
	"math/rand"
	"slices"
	"testing"

	"tabulary/api"
	"tabulary/member"
)

// P14.2: Climb and Check by hand: with no step, with one on each side, with more.
func TestClimbByHand(t *testing.T) {
	r := rand.New(rand.NewSource(11))
	l := anyRow(r, 4)
	a, b, c, d := l[0], l[1], l[2], l[3]
	wantTop(t, a, 0, 1, nil, a)
	wantTop(t, a, 0, 1, []api.Node{}, a)
	wantTop(t, api.Node{}, 0, 1, nil, api.Node{})
	wantTop(t, a, 0, 2, []api.Node{b}, joinOf(a, b))
	wantTop(t, a, 1, 2, []api.Node{b}, joinOf(b, a))
	wantTop(t, a, 4, 5, []api.Node{b}, joinOf(b, a))
	wantTop(t, a, 2048, 2049, []api.Node{b}, joinOf(b, a))
	wantTop(t, a, 0, 3, []api.Node{b, c}, joinOf(joinOf(a, b), c))
	wantTop(t, a, 1, 3, []api.Node{b, c}, joinOf(joinOf(b, a), c))
	wantTop(t, a, 2, 4, []api.Node{b, c}, joinOf(c, joinOf(a, b)))
	wantTop(t, a, 3, 4, []api.Node{b, c}, joinOf(c, joinOf(b, a)))
	wantTop(t, a, 0, 5, []api.Node{b, c, d}, joinOf(joinOf(joinOf(a, b), c), d))
	wantTop(t, a, 3, 5, []api.Node{b, c, d}, joinOf(joinOf(c, joinOf(b, a)), d))
	wantTop(t, a, 5, 7, []api.Node{b, c, d}, joinOf(d, joinOf(joinOf(b, a), c)))
}

// P14.2: Climb of twelve steps, all on the left side, all on the right one, in turn.
func TestClimbOfTwelve(t *testing.T) {
	r := rand.New(rand.NewSource(12))
	path, leaf := anyRow(r, 12), anyNode(r)
	for _, i := range []int{0, 4095, 0b010101010101, 0b101010101010, 1, 2048, 2047, 4094} {
		at := leaf
		for k, step := range path {
			if i>>k&1 == 0 {
				at = joinOf(at, step)
			} else {
				at = joinOf(step, at)
			}
		}
		wantTop(t, leaf, i, 4096, path, at)
	}
}

// P14.2: Climb and Check of any leaf and steps, at all places of small trees, at some of great ones.
func TestClimb(t *testing.T) {
	r := rand.New(rand.NewSource(13))
	for _, n := range slices.Concat(small(), great()) {
		for _, i := range placesOf(n) {
			leaf, path := anyNode(r), anyRow(r, len(besideOf(i, n)))
			wantTop(t, leaf, i, n, path, topOf(leaf, i, n, path))
		}
	}
}

// P14.2: where Steps is -1: ErrArg, of a path of any length, a wrong one too.
func TestClimbOfWrongPlaces(t *testing.T) {
	r := rand.New(rand.NewSource(14))
	steps := anyRow(r, 20)
	for _, x := range wrongPlaces() {
		for many := range steps {
			wantNoTop(t, api.ErrArg, anyNode(r), x[0], x[1], steps[:many])
		}
		wantNoTop(t, api.ErrArg, api.Node{}, x[0], x[1], nil)
	}
}

// P14.2: a path of one step too few, of one too many, of none, of many more: ErrProof, even where the steps that there are lead to the root.
func TestClimbOfWrongPaths(t *testing.T) {
	r := rand.New(rand.NewSource(15))
	for _, n := range []int{1, 2, 3, 4, 5, 7, 8, 9, 31, 33, 128, 1000, 2049, 4095, 4096} {
		for _, i := range somePlaces(n) {
			right := len(besideOf(i, n))
			leaf, steps := anyNode(r), anyRow(r, 18)
			top := topOf(leaf, i, n, steps[:right])
			for many := range steps {
				if many == right {
					continue
				}
				wantNoTop(t, api.ErrProof, leaf, i, n, steps[:many])
				if e := member.Check(top, leaf, i, n, steps[:many]); e != api.ErrProof {
					t.Errorf("of %d of %d, %d steps: %d", i, n, many, e)
				}
			}
			// As far as it goes, the path leads to its own end.
			for many := range right {
				at := leaf
				for k, b := range slices.Backward(besideOf(i, n)) {
					if step := right - 1 - k; step < many && b.left {
						at = joinOf(steps[step], at)
					} else if step < many {
						at = joinOf(at, steps[step])
					}
				}
				if e := member.Check(at, leaf, i, n, steps[:many]); e != api.ErrProof {
					t.Errorf("of %d of %d, %d steps alone: %d", i, n, many, e)
				}
			}
		}
	}
}

// wantUnproved fails the test, unless Check answers ErrProof.
func wantUnproved(t *testing.T, what string, root, leaf api.Node, i, n int, path []api.Node) {
	t.Helper()
	if e := member.Check(root, leaf, i, n, path); e != api.ErrProof {
		t.Errorf("%s, of %d of %d: %d", what, i, n, e)
	}
}

// P14.2: Check of another leaf, or with a step that was changed, the first, a middle, the last one, in its hash or in a number of its brief.
func TestCheckOfChanged(t *testing.T) {
	r := rand.New(rand.NewSource(16))
	for _, n := range []int{1, 2, 3, 4, 5, 7, 8, 9, 33, 100, 4095, 4096} {
		for _, i := range somePlaces(n) {
			leaf, path := anyNode(r), anyRow(r, len(besideOf(i, n)))
			root := topOf(leaf, i, n, path)
			for _, other := range append(changes(leaf), api.Node{}, root, anyNode(r)) {
				if other != leaf {
					wantUnproved(t, "another leaf", root, other, i, n, path)
				}
			}
			for k, step := range path {
				for _, other := range append(changes(step), api.Node{}, leaf, root) {
					way := slices.Clone(path)
					way[k] = other
					wantUnproved(t, "another step", root, leaf, i, n, way)
				}
				for j := range k {
					way := slices.Clone(path)
					way[j], way[k] = way[k], way[j]
					wantUnproved(t, "two steps exchanged", root, leaf, i, n, way)
				}
				way := slices.Clone(path)
				way[k] = leaf
				if k == 0 {
					wantUnproved(t, "leaf and step exchanged", root, step, i, n, way)
				}
			}
		}
	}
}

// P14.2: Check of another root: of the same hash but another brief, of the same brief but another hash, of none, of the leaf.
func TestCheckOfAnotherRoot(t *testing.T) {
	r := rand.New(rand.NewSource(17))
	for _, n := range []int{1, 2, 3, 5, 8, 4096} {
		for _, i := range somePlaces(n) {
			leaf, path := anyNode(r), anyRow(r, len(besideOf(i, n)))
			root := topOf(leaf, i, n, path)
			for _, other := range []api.Node{{}, {H: root.H}, {B: root.B}, {H: root.H, B: rightBrief(r)}, {H: anyHash(r), B: root.B}, anyNode(r)} {
				if other != root {
					wantUnproved(t, "another root", other, leaf, i, n, path)
				}
			}
			if n > 1 {
				wantUnproved(t, "the leaf as the root", leaf, leaf, i, n, path)
				wantUnproved(t, "a step as the root", path[0], leaf, i, n, path)
			}
		}
	}
}

// P14.2: Check at another place, or in a tree of more or fewer, where a path has as many steps.
func TestCheckElsewhere(t *testing.T) {
	r := rand.New(rand.NewSource(18))
	for _, n := range []int{2, 3, 4, 5, 8, 13, 32} {
		l := anyRow(r, n)
		root := rootOf(l)
		for i := range l {
			path, _ := member.Path(l, i)
			for k := range l {
				if k != i {
					wantUnproved(t, "another place", root, l[i], k, n, path)
				}
			}
			for _, many := range []int{n - 1, n + 1, 2 * n} {
				// The sides may be the same there, and so the root: only where they aren't, it isn't.
				if i < many && !slices.Equal(sidesOf(i, n), sidesOf(i, many)) {
					wantUnproved(t, "a tree of another size", root, l[i], i, many, path)
				}
			}
		}
	}
}

// sidesOf are the sides that all stands on beside a leaf.
func sidesOf(i, n int) []bool {
	var out []bool
	for _, b := range besideOf(i, n) {
		out = append(out, b.left)
	}
	return out
}

// P14.2, R3: Climb, Check and Clash write neither into a path nor into the room behind it.
func TestClimbChangesNothing(t *testing.T) {
	r := rand.New(rand.NewSource(19))
	for _, n := range []int{1, 2, 5, 8, 100, 4096} {
		for _, i := range somePlaces(n) {
			many := len(besideOf(i, n))
			room, leaf := anyRow(r, many+15), anyNode(r)
			kept := slices.Clone(room)
			top, _ := member.Climb(leaf, i, n, room[:many])
			again, _ := member.Climb(leaf, i, n, room[:many])
			member.Check(top, leaf, i, n, room[:many])
			member.Climb(leaf, i, n, room[:many+1])
			member.Climb(leaf, i, n, room[:max(many-1, 0)])
			member.Clash(i, n, leaf, room[:many], leaf, room[:many])
			member.Clash(i, n, leaf, room[:many], room[many], room[1:many+1])
			if !slices.Equal(room, kept) || top != again {
				t.Errorf("of %d of %d: changed", i, n)
			}
		}
	}
}
