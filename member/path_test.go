package member_test

import (
	"math"
	"math/rand"
	"slices"
	"testing"

	"tabulary/api"
	"tabulary/member"
)

// P14.1: Path by hand, of trees of one, of two, of three, of four, of five.
func TestPathByHand(t *testing.T) {
	r := rand.New(rand.NewSource(1))
	l := anyRow(r, 5)
	a, b, c, d, e := l[0], l[1], l[2], l[3], l[4]
	ab, cd := joinOf(a, b), joinOf(c, d)
	abcd := joinOf(ab, cd)
	for n, paths := range [][][]api.Node{
		{},
		{nil},
		{{b}, {a}},
		{{b, c}, {a, c}, {ab}},
		{{b, cd}, {a, cd}, {d, ab}, {c, ab}},
		{{b, cd, e}, {a, cd, e}, {d, ab, e}, {c, ab, e}, {abcd}},
	} {
		for i, path := range paths {
			wantPath(t, l[:n], i, path)
		}
	}
}

// P14.1: Path by hand of seven leaves: what stands beside the last ones is what is full ahead of them.
func TestPathOfTheLast(t *testing.T) {
	r := rand.New(rand.NewSource(2))
	l := anyRow(r, 7)
	four := joinOf(joinOf(l[0], l[1]), joinOf(l[2], l[3]))
	two := joinOf(l[4], l[5])
	three := joinOf(two, l[6])
	wantPath(t, l, 6, []api.Node{two, four})
	wantPath(t, l, 5, []api.Node{l[4], l[6], four})
	wantPath(t, l, 4, []api.Node{l[5], l[6], four})
	wantPath(t, l, 3, []api.Node{l[2], joinOf(l[0], l[1]), three})
	wantPath(t, l[:6], 5, []api.Node{l[4], four})
	wantPath(t, l[:6], 4, []api.Node{l[5], four})
	wantPath(t, l[:6], 0, []api.Node{l[1], joinOf(l[2], l[3]), two})
}

// P14.1: Path of all leaves of small trees, of some of great ones, and of trees above 4096 leaves, where it has no bound.
func TestPath(t *testing.T) {
	r := rand.New(rand.NewSource(3))
	l := anyRow(r, 9000)
	kept := slices.Clone(l)
	for _, n := range slices.Concat(small(), great(), []int{4097, 5000, 8193, 9000}) {
		for _, i := range placesOf(n) {
			wantPath(t, l[:n], i, pathOf(l[:n], i))
		}
	}
	if !slices.Equal(l, kept) {
		t.Error("the leaves are changed")
	}
}

// P14.1: how long a path is above 4096 leaves, by hand.
func TestPathAboveAll(t *testing.T) {
	l := make([]api.Node, 1<<15+1)
	for _, x := range []struct{ n, i, steps int }{
		{4097, 0, 13}, {4097, 4095, 13}, {4097, 4096, 1}, {8192, 0, 13}, {8192, 8191, 13}, {1<<15 + 1, 5, 16}, {1<<15 + 1, 1 << 15, 1}, {1<<14 + 2, 1<<14 + 1, 2},
	} {
		if got, e := member.Path(l[:x.n], x.i); e != api.OK || len(got) != x.steps {
			t.Errorf("of %d of %d: %d, %d; not %d", x.i, x.n, len(got), e, x.steps)
		}
	}
}

// P14.1: there is no such leaf: none at all, below 0, just as many as there are, above, the least and the greatest number.
func TestPathOfNone(t *testing.T) {
	r := rand.New(rand.NewSource(4))
	l := anyRow(r, 5000)
	for _, n := range []int{0, 1, 2, 3, 5, 8, 9, 4095, 4096, 4097, 5000} {
		for _, i := range []int{-1, -2, -n - 1, n, n + 1, 2*n + 1, 1 << 32, -1 << 32, 1 << 62, math.MinInt, math.MinInt + 1, math.MaxInt - 1, math.MaxInt} {
			if path, e := member.Path(l[:n], i); e != api.ErrNone || len(path) != 0 {
				t.Errorf("of %d of %d: %d steps, %d", i, n, len(path), e)
			}
		}
	}
	if path, e := member.Path(nil, 0); e != api.ErrNone || len(path) != 0 {
		t.Errorf("of 0 of nil: %d steps, %d", len(path), e)
	}
}

// P14.1, R3: Path writes neither into the leaves nor into the room behind them, and two paths share nothing.
func TestPathSharesNothing(t *testing.T) {
	r := rand.New(rand.NewSource(5))
	for _, n := range []int{1, 2, 3, 5, 8, 13, 33} {
		room := anyRow(r, n+20)
		l, kept := room[:n], slices.Clone(room)
		for i := range n {
			want := pathOf(kept[:n], i)
			one, _ := member.Path(l, i)
			two, _ := member.Path(l, i)
			clear(two[:cap(two)])
			if !slices.Equal(one, want) || !slices.Equal(room, kept) {
				t.Errorf("of %d of %d: one path is seen in another, or in the leaves", i, n)
			}
			room[i] = api.Node{}
			room[(i+1)%n] = api.Node{}
			if !slices.Equal(one, want) {
				t.Errorf("of %d of %d: what was handed in is seen", i, n)
			}
			copy(room, kept)
			member.Path(l, (i+1)%n)
			if !slices.Equal(one, want) {
				t.Errorf("of %d of %d: a later call is seen", i, n)
			}
		}
	}
}

// P14.1: Steps by hand.
func TestStepsByHand(t *testing.T) {
	for _, x := range []struct{ i, n, steps int }{
		{4, 5, 1}, {0, 5, 3}, {3, 5, 3}, {0, 1, 0}, {0, 2, 1}, {1, 2, 1}, {0, 3, 2}, {1, 3, 2}, {2, 3, 1}, {0, 4, 2}, {3, 4, 2}, {0, 6, 3}, {4, 6, 2}, {5, 6, 2},
		{0, 7, 3}, {5, 7, 3}, {6, 7, 2}, {0, 8, 3}, {7, 8, 3}, {0, 9, 4}, {7, 9, 4}, {8, 9, 1}, {14, 15, 3}, {15, 16, 4}, {16, 17, 1}, {30, 31, 4}, {32, 33, 1},
		{0, 2047, 11}, {2046, 2047, 10}, {0, 2048, 11}, {2047, 2048, 11}, {0, 2049, 12}, {2047, 2049, 12}, {2048, 2049, 1},
		{0, 4095, 12}, {4094, 4095, 11}, {0, 4096, 12}, {1, 4096, 12}, {2047, 4096, 12}, {2048, 4096, 12}, {4095, 4096, 12},
	} {
		if got := member.Steps(x.i, x.n); got != x.steps {
			t.Errorf("Steps(%d, %d): %d, not %d", x.i, x.n, got, x.steps)
		}
	}
}

// P14.1: Steps of all places of small trees and of great ones; each is how long a path is.
func TestSteps(t *testing.T) {
	for _, n := range slices.Concat(small(), great()) {
		l := make([]api.Node, n)
		for i := range n {
			if got, want := member.Steps(i, n), len(besideOf(i, n)); got != want {
				t.Errorf("Steps(%d, %d): %d, not %d", i, n, got, want)
			}
		}
		for _, i := range somePlaces(n) {
			if path, e := member.Path(l, i); e != api.OK || len(path) != member.Steps(i, n) {
				t.Errorf("Path of %d of %d: %d steps, %d", i, n, len(path), e)
			}
		}
	}
}

// P14.1: Steps of what may not be.
func TestNoSteps(t *testing.T) {
	for _, x := range wrongPlaces() {
		if got := member.Steps(x[0], x[1]); got != -1 {
			t.Errorf("Steps(%d, %d): %d", x[0], x[1], got)
		}
	}
}
