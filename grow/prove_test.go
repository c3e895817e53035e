package grow_test

import (
	"math"
	"math/bits"
	"math/rand"
	"slices"
	"testing"

	"tabulary/api"
	"tabulary/grow"
	"tabulary/tree"
)

// wantCover fails the test, unless Cover answers just these.
func wantCover(t *testing.T, m, n int, want []int) {
	t.Helper()
	if got := grow.Cover(m, n); !slices.Equal(got, want) {
		t.Errorf("Cover(%d, %d): %d, not %d", m, n, got, want)
	}
}

// P15.1: Cover by hand: the examples, of 0, to itself, to one more, of 0 to small numbers, of odd places, of powers of two and those beside them.
func TestCoverByHand(t *testing.T) {
	for _, x := range []struct {
		m, n  int
		cover []int
	}{
		{6, 11, []int{2, 2, 1}}, {0, 5, []int{4, 1}},
		{0, 0, nil}, {1, 1, nil}, {2, 2, nil}, {5, 5, nil}, {4095, 4095, nil}, {4096, 4096, nil},
		{0, 1, []int{1}}, {1, 2, []int{1}}, {2, 3, []int{1}}, {3, 4, []int{1}}, {7, 8, []int{1}}, {8, 9, []int{1}}, {2048, 2049, []int{1}}, {4094, 4095, []int{1}}, {4095, 4096, []int{1}},
		{0, 2, []int{2}}, {0, 3, []int{2, 1}}, {0, 4, []int{4}}, {0, 6, []int{4, 2}}, {0, 7, []int{4, 2, 1}}, {0, 8, []int{8}}, {0, 9, []int{8, 1}},
		{1, 3, []int{1, 1}}, {1, 4, []int{1, 2}}, {1, 5, []int{1, 2, 1}}, {1, 8, []int{1, 2, 4}}, {1, 9, []int{1, 2, 4, 1}}, {3, 5, []int{1, 1}}, {3, 8, []int{1, 4}}, {5, 12, []int{1, 2, 4}}, {5, 16, []int{1, 2, 8}}, {7, 16, []int{1, 8}}, {7, 17, []int{1, 8, 1}},
		{2, 4, []int{2}}, {2, 8, []int{2, 4}}, {2, 7, []int{2, 2, 1}}, {4, 8, []int{4}}, {4, 7, []int{2, 1}}, {4, 9, []int{4, 1}}, {4, 12, []int{4, 4}}, {4, 16, []int{4, 8}}, {8, 16, []int{8}}, {8, 15, []int{4, 2, 1}}, {8, 17, []int{8, 1}}, {8, 24, []int{8, 8}}, {6, 16, []int{2, 8}},
		{2048, 4096, []int{2048}}, {2047, 4096, []int{1, 2048}}, {2049, 4096, []int{1, 2, 4, 8, 16, 32, 64, 128, 256, 512, 1024}}, {2048, 4095, []int{1024, 512, 256, 128, 64, 32, 16, 8, 4, 2, 1}},
		{0, 4096, []int{4096}}, {1, 4096, []int{1, 2, 4, 8, 16, 32, 64, 128, 256, 512, 1024, 2048}}, {0, 4095, []int{2048, 1024, 512, 256, 128, 64, 32, 16, 8, 4, 2, 1}},
		{1, 4095, []int{1, 2, 4, 8, 16, 32, 64, 128, 256, 512, 1024, 1024, 512, 256, 128, 64, 32, 16, 8, 4, 2, 1}}, {1024, 4096, []int{1024, 2048}}, {1023, 2049, []int{1, 1024, 1}},
	} {
		wantCover(t, x.m, x.n, x.cover)
	}
}

// P15.1: Cover of all small m and n, and of great ones: each is a power of two that divides its place, and none greater would do; all together they reach n.
func TestCover(t *testing.T) {
	for _, x := range slices.Concat(small(150), great()) {
		m, n := x[0], x[1]
		cover := grow.Cover(m, n)
		wantCover(t, m, n, coverOf(m, n))
		at := m
		for _, size := range cover {
			if bits.OnesCount(uint(size)) != 1 || at%size != 0 || at+size > n {
				t.Errorf("Cover(%d, %d): %d at %d", m, n, size, at)
			}
			if at%(2*size) == 0 && at+2*size <= n {
				t.Errorf("Cover(%d, %d): %d at %d, where twice that would do", m, n, size, at)
			}
			at += size
		}
		if at != n {
			t.Errorf("Cover(%d, %d): up to %d", m, n, at)
		}
	}
}

// P15.1: a cover from 0 on is as chapter 13's Sizes.
func TestCoverFromNone(t *testing.T) {
	for n := range api.MaxEvents + 1 {
		wantCover(t, 0, n, tree.Sizes(n))
	}
}

// P15.1: Cover is none, if m is below 0 or above n, or n above 4096.
func TestNoCover(t *testing.T) {
	for _, x := range wrongPairs() {
		wantCover(t, x[0], x[1], nil)
	}
}

// R3: two covers share nothing.
func TestCoverSharesNothing(t *testing.T) {
	for _, x := range [][2]int{{6, 11}, {0, 5}, {0, 4096}, {1, 4095}} {
		one, two := grow.Cover(x[0], x[1]), grow.Cover(x[0], x[1])
		clear(two[:cap(two)])
		if !slices.Equal(one, coverOf(x[0], x[1])) {
			t.Errorf("Cover(%d, %d): one is seen in another", x[0], x[1])
		}
		wantCover(t, x[0], x[1], coverOf(x[0], x[1]))
	}
}

// wantProof fails the test, unless Prove answers just this.
func wantProof(t *testing.T, l []api.Node, m int, want api.Growth) {
	t.Helper()
	if got, e := grow.Prove(l, m); e != api.OK || !isSame(got, want) {
		t.Errorf("Prove of %d of %d: %d and %d nodes, %d; not %d and %d, or other ones", m, len(l), len(got.Old), len(got.New), e, len(want.Old), len(want.New))
	}
}

// P15.1: Prove by hand: of no leaf, of one, of a few, of six of eleven.
func TestProveByHand(t *testing.T) {
	r := rand.New(rand.NewSource(1))
	l := anyRow(r, 11)
	two := func(i int) api.Node { return joinOf(l[i], l[i+1]) }
	four := func(i int) api.Node { return joinOf(two(i), two(i+2)) }
	none := []api.Node(nil)
	for _, x := range []struct {
		m, n     int
		old, new []api.Node
	}{
		{0, 0, none, none}, {0, 1, none, l[:1]}, {1, 1, l[:1], none},
		{0, 2, none, []api.Node{two(0)}}, {1, 2, l[:1], l[1:2]}, {2, 2, []api.Node{two(0)}, none},
		{0, 3, none, []api.Node{two(0), l[2]}}, {1, 3, l[:1], l[1:3]}, {2, 3, []api.Node{two(0)}, l[2:3]}, {3, 3, []api.Node{two(0), l[2]}, none},
		{1, 4, l[:1], []api.Node{l[1], two(2)}}, {2, 4, []api.Node{two(0)}, []api.Node{two(2)}}, {3, 4, []api.Node{two(0), l[2]}, l[3:4]},
		{0, 5, none, []api.Node{four(0), l[4]}}, {3, 8, []api.Node{two(0), l[2]}, []api.Node{l[3], four(4)}}, {5, 8, []api.Node{four(0), l[4]}, []api.Node{l[5], two(6)}},
		{6, 11, []api.Node{four(0), two(4)}, []api.Node{two(6), two(8), l[10]}}, {7, 11, []api.Node{four(0), two(4), l[6]}, []api.Node{l[7], two(8), l[10]}},
		{8, 11, []api.Node{joinOf(four(0), four(4))}, []api.Node{two(8), l[10]}}, {11, 11, []api.Node{joinOf(four(0), four(4)), two(8), l[10]}, none},
	} {
		wantProof(t, l[:x.n], x.m, api.Growth{Old: x.old, New: x.new})
	}
	wantProof(t, nil, 0, api.Growth{})
}

// P15.1: Prove of each m from 0 to all of small rows of leaves, any ones, and of great rows, up to 4096.
func TestProve(t *testing.T) {
	r := rand.New(rand.NewSource(2))
	l := anyRow(r, 4096)
	kept := slices.Clone(l)
	for _, x := range slices.Concat(small(40), great()) {
		m, n := x[0], x[1]
		wantProof(t, l[:n], m, proofOf(l[:n], m))
	}
	if !slices.Equal(l, kept) {
		t.Error("the leaves are changed")
	}
}

// P15.1: the nodes of Old are those of chapter 13's Peaks of the first leaves.
func TestProveByPeaks(t *testing.T) {
	l := leavesOf(rand.New(rand.NewSource(3)), 70)
	for m := range len(l) + 1 {
		g, _ := grow.Prove(l, m)
		var old []api.Node
		for _, peak := range tree.Peaks(l[:m]) {
			old = append(old, peak.N)
		}
		if !slices.Equal(g.Old, old) {
			t.Errorf("of %d: %d nodes, not %d, or other ones", m, len(g.Old), len(old))
		}
	}
}

// wantNoProof fails the test, unless Prove answers ErrArg.
func wantNoProof(t *testing.T, l []api.Node, m int) {
	t.Helper()
	if g, e := grow.Prove(l, m); e != api.ErrArg || len(g.Old) != 0 || len(g.New) != 0 {
		t.Errorf("Prove of %d of %d: %d and %d nodes, %d", m, len(l), len(g.Old), len(g.New), e)
	}
}

// P15.1: Prove of m below 0 or above how many leaves there are, and of more than 4096 leaves, whatever m is: ErrArg.
func TestNoProof(t *testing.T) {
	room := make([]api.Node, 9000)
	for _, n := range []int{0, 1, 2, 5, 8, 11, 4095, 4096} {
		for _, m := range []int{-1, -2, -n - 1, n + 1, n + 2, 2*n + 1, 4097, 1 << 32, -1 << 32, 1<<32 + 1, math.MinInt, math.MinInt + 1, math.MaxInt - 1, math.MaxInt} {
			wantNoProof(t, room[:n], m)
		}
	}
	for _, n := range []int{4097, 4098, 5000, 8192, 9000} {
		for _, m := range []int{0, 1, 6, 2048, 4095, 4096, 4097, n - 1, n, n + 1, -1, math.MinInt, math.MaxInt} {
			wantNoProof(t, room[:n], m)
		}
	}
	wantNoProof(t, nil, 1)
	wantNoProof(t, nil, -1)
}

// P15.1, R3: Prove writes neither into the leaves nor into the room behind them; what it told shares nothing with them, with a later one, nor one row with the other.
func TestProveSharesNothing(t *testing.T) {
	r := rand.New(rand.NewSource(4))
	for _, n := range []int{1, 2, 3, 5, 8, 11, 33} {
		room := anyRow(r, n+20)
		l, kept := room[:n], slices.Clone(room)
		for m := range n + 1 {
			want := proofOf(kept[:n], m)
			one, _ := grow.Prove(l, m)
			two, _ := grow.Prove(l, m)
			clear(two.Old[:cap(two.Old)])
			if !slices.Equal(two.New, want.New) {
				t.Errorf("of %d of %d: Old and New share memory", m, n)
			}
			clear(two.New[:cap(two.New)])
			if !isSame(one, want) || !slices.Equal(room, kept) {
				t.Errorf("of %d of %d: one proof is seen in another, or in the leaves", m, n)
			}
			clear(room)
			if !isSame(one, want) {
				t.Errorf("of %d of %d: what was handed in is seen", m, n)
			}
			copy(room, kept)
			grow.Prove(l, n-m)
			grow.Check(rootOf(l), m, rootOf(l), n, one)
			if !isSame(one, want) {
				t.Errorf("of %d of %d: a later call is seen", m, n)
			}
		}
	}
}
