package tree_test

import (
	"math"
	"math/rand"
	"slices"
	"testing"

	"tabulary/api"
	"tabulary/tree"
)

// P13.2: Sizes by hand.
func TestSizes(t *testing.T) {
	for _, x := range []struct {
		n    int
		want []int
	}{
		{1, []int{1}}, {2, []int{2}}, {3, []int{2, 1}}, {4, []int{4}}, {5, []int{4, 1}}, {6, []int{4, 2}}, {7, []int{4, 2, 1}}, {8, []int{8}}, {9, []int{8, 1}}, {13, []int{8, 4, 1}},
		{4096, []int{4096}}, {4097, []int{4096, 1}}, {1<<62 + 5, []int{1 << 62, 4, 1}},
		{0, nil}, {-1, nil}, {-2, nil}, {-3, nil}, {-4096, nil}, {-1 << 62, nil}, {math.MinInt + 1, nil}, {math.MinInt, nil},
	} {
		if got := tree.Sizes(x.n); !slices.Equal(got, x.want) {
			t.Errorf("%d: %d, not %d", x.n, got, x.want)
		}
	}
}

// P13.2: Sizes of powers of two, of one less, of the greatest number.
func TestSizesOfPowers(t *testing.T) {
	for bit := range 63 {
		if got := tree.Sizes(1 << bit); !slices.Equal(got, []int{1 << bit}) {
			t.Errorf("2^%d: %d", bit, got)
		}
		var want []int
		for k := bit - 1; k >= 0; k-- {
			want = append(want, 1<<k)
		}
		if got := tree.Sizes(1<<bit - 1); !slices.Equal(got, want) {
			t.Errorf("one less than 2^%d: %d", bit, got)
		}
	}
	got := tree.Sizes(math.MaxInt)
	if len(got) != 63 || got[0] != 1<<62 || got[62] != 1 || !slices.Equal(got, sizesOf(math.MaxInt)) {
		t.Errorf("of the greatest number: %d", got)
	}
}

// P13.2: Sizes of many: powers of two, falling, whose sum is the number.
func TestSizesOfMany(t *testing.T) {
	r := rand.New(rand.NewSource(11))
	for n := range 9000 {
		if n%2 == 1 {
			n = int(r.Uint64() >> 1 >> r.Intn(63))
		}
		got, sum := tree.Sizes(n), 0
		for i, size := range got {
			if size&(size-1) != 0 || size < 1 || i > 0 && size >= got[i-1] {
				t.Fatalf("%d: %d", n, got)
			}
			sum += size
		}
		if sum != n || !slices.Equal(got, sizesOf(n)) {
			t.Fatalf("%d: %d", n, got)
		}
	}
}

// addOf are peaks with one more, joined by going over the end of the list again and again.
func addOf(p []api.Peak, n api.Peak) []api.Peak {
	out := append(slices.Clone(p), n)
	for len(out) > 1 && out[len(out)-1].Size == out[len(out)-2].Size {
		a, b := out[len(out)-2], out[len(out)-1]
		out = append(slices.Clone(out[:len(out)-2]), api.Peak{Size: a.Size + b.Size, N: joinOf(a.N, b.N)})
	}
	return out
}

// P13.2: Add behind none, of each size.
func TestAddBehindNone(t *testing.T) {
	r := rand.New(rand.NewSource(12))
	for size := 1; size <= 4096; size *= 2 {
		n := api.Peak{Size: size, N: anyNode(r)}
		wantAdd(t, nil, n, []api.Peak{n})
		wantAdd(t, []api.Peak{}, n, []api.Peak{n})
	}
}

// P13.2: Add by hand, so that nothing is joined, so that one pair is, so that more are, so that all are.
func TestAddByHand(t *testing.T) {
	p := anyPeaks(rand.New(rand.NewSource(13)), 8, 4, 2, 1, 1, 2, 8)
	eight, four, two, one := p[0], p[1], p[2], p[3]
	n, m, k := p[4], p[5], p[6]
	peak := func(size int, a, b api.Node) api.Peak { return api.Peak{Size: size, N: joinOf(a, b)} }

	wantAdd(t, []api.Peak{eight}, n, []api.Peak{eight, n})
	wantAdd(t, []api.Peak{eight, four}, n, []api.Peak{eight, four, n})
	wantAdd(t, []api.Peak{eight, four}, m, []api.Peak{eight, four, m})
	wantAdd(t, []api.Peak{eight, two}, n, []api.Peak{eight, two, n})

	pair := peak(2, one.N, n.N)
	wantAdd(t, []api.Peak{one}, n, []api.Peak{pair})
	wantAdd(t, []api.Peak{four, one}, n, []api.Peak{four, pair})
	wantAdd(t, []api.Peak{eight, four, one}, n, []api.Peak{eight, four, pair})
	wantAdd(t, []api.Peak{eight, two}, m, []api.Peak{eight, peak(4, two.N, m.N)})
	wantAdd(t, []api.Peak{eight}, k, []api.Peak{peak(16, eight.N, k.N)})

	upper := peak(4, two.N, pair.N)
	wantAdd(t, []api.Peak{two, one}, n, []api.Peak{upper})
	wantAdd(t, []api.Peak{eight, two, one}, n, []api.Peak{eight, upper})
	wantAdd(t, []api.Peak{eight, four, two, one}, n, []api.Peak{peak(16, eight.N, joinOf(four.N, upper.N))})
	wantAdd(t, []api.Peak{eight, four, two}, m, []api.Peak{peak(16, eight.N, joinOf(four.N, joinOf(two.N, m.N)))})
}

// P13.2: Add behind peaks of each number of leaves, of all sizes that may be, up to just as many as a log has.
func TestAddOfAllSizes(t *testing.T) {
	r := rand.New(rand.NewSource(14))
	numbers := []int{4096, 4095, 4094, 4093, 4092, 4088, 4080, 3072, 3584, 2049, 2048, 2047, 1025, 1024}
	for n := 1; n < 70; n++ {
		numbers = append(numbers, n, 4096-n)
	}
	just := 0
	for _, many := range numbers {
		p := anyPeaks(r, sizesOf(many)...)
		for size := 1; size <= 8192; size *= 2 {
			n := api.Peak{Size: size, N: anyNode(r)}
			if size > p[len(p)-1].Size || many+size > 4096 {
				wantRefused(t, p, n)
				continue
			}
			wantAdd(t, p, n, addOf(p, n))
			if many+size == 4096 {
				just++
			}
		}
	}
	if just < 13 {
		t.Errorf("just 4096 together: %d times", just)
	}
}

// P13.2: Add up to just 4096 together by hand: all are joined; one more is refused.
func TestAddUpToAll(t *testing.T) {
	r := rand.New(rand.NewSource(15))
	p := anyPeaks(r, sizesOf(4095)...)
	n := api.Peak{Size: 1, N: anyNode(r)}
	all := n.N
	for _, x := range slices.Backward(p) {
		all = joinOf(x.N, all)
	}
	wantAdd(t, p, n, []api.Peak{{Size: 4096, N: all}})
	full := []api.Peak{{Size: 4096, N: all}}
	for size := 1; size <= 8192; size *= 2 {
		wantRefused(t, full, api.Peak{Size: size, N: n.N})
	}
	wantRefused(t, nil, api.Peak{Size: 8192, N: n.N})
	half := anyPeaks(r, 2048)
	wantAdd(t, half, api.Peak{Size: 2048, N: n.N}, []api.Peak{{Size: 4096, N: joinOf(half[0].N, n.N)}})
	wantRefused(t, anyPeaks(r, 2048, 1024), api.Peak{Size: 2048, N: n.N})
}

// wrongSizes are sizes of peaks that aren't right.
func wrongSizes() [][]int {
	const great = 1 << 62
	out := [][]int{
		{0}, {-1}, {-2}, {-4}, {3}, {5}, {6}, {7}, {12}, {4095}, {4097}, {math.MinInt}, {math.MinInt + 1}, {math.MaxInt}, {-great}, {-1, -2},
		{8, 3}, {8, 0}, {8, -1}, {8, -8}, {8, math.MinInt}, {3, 1}, {0, 1}, {-1, 1}, {8, 3, 1}, {8, 0, 1}, {8, -4, 1}, {math.MinInt, 1}, {math.MinInt, -great}, {6, 2, 1}, {8, 6, 1},
		{1, 1}, {8, 8}, {8, 4, 4}, {8, 8, 4}, {8, 4, 4, 2}, {2048, 2048}, {2048, 1024, 1024}, {4096, 4096},
		{1, 2}, {4, 8}, {8, 2, 4}, {4, 8, 2}, {1, 2, 4, 8}, {8, 4, 1, 2}, {1, 4096}, {16, 4, 8, 1},
		{8192}, {4096, 1}, {4096, 2048}, {4096, 2}, {4096, 2048, 1024}, {8192, 1}, {8192, 4096}, {great}, {great, 1}, {1 << 32}, {1 << 32, 1},
		// Sums that go round: to 0, to 1, to below 0, to just as many as a log has.
		{great, great, great, great}, {great, great, great, great, 1}, {great, great}, {great, great, 1}, {math.MinInt, math.MinInt}, {math.MinInt, math.MinInt, 1}, {math.MinInt, great, great, 2048}, {great, math.MaxInt - great + 1, math.MinInt, 8},
		{math.MaxInt, math.MaxInt, 2}, {math.MaxInt, math.MaxInt, 2, 1}, {great, great, great, great, 4096},
	}
	falling := sizesOf(math.MaxInt)
	return append(out, falling, append(slices.Clone(falling), 1), sizesOf(8191), sizesOf(4097), sizesOf(6144))
}

// P13.2: Add to peaks that aren't right, of each size that may be elsewhere.
func TestAddToWrongPeaks(t *testing.T) {
	r := rand.New(rand.NewSource(16))
	for _, sizes := range wrongSizes() {
		p := anyPeaks(r, sizes...)
		for size := 1; size <= 4096; size *= 2 {
			wantRefused(t, p, api.Peak{Size: size, N: anyNode(r)})
		}
		last := p[len(p)-1]
		wantRefused(t, p, last)
		for _, size := range []int{0, -1, math.MinInt, math.MaxInt, 3} {
			wantRefused(t, p, api.Peak{Size: size, N: last.N})
		}
	}
}

// P13.2: Add of sizes that are no powers of two, of 0, below 0, above the last one's, more than all together.
func TestAddOfWrongSizes(t *testing.T) {
	r := rand.New(rand.NewSource(17))
	wrong := []int{0, -1, -2, -3, -4, -8, -4096, math.MinInt, math.MinInt + 1, -1 << 62, 3, 5, 6, 7, 9, 12, 4095, 4097, 6144, 8192, 1 << 32, 1 << 61, 1 << 62, 1<<62 + 1, math.MaxInt - 1, math.MaxInt}
	for _, sizes := range [][]int{nil, {1}, {2, 1}, {8}, {8, 4}, {1024}, {2048, 1024}, sizesOf(4095), {4096}} {
		p := anyPeaks(r, sizes...)
		for _, size := range wrong {
			wantRefused(t, p, api.Peak{Size: size, N: anyNode(r)})
		}
	}
	for _, x := range []struct {
		sizes []int
		size  int
	}{
		{[]int{1}, 2}, {[]int{2}, 4}, {[]int{4, 1}, 2}, {[]int{4, 1}, 4}, {[]int{4, 2}, 4}, {[]int{8, 4, 2, 1}, 2}, {[]int{1}, 4096}, {[]int{1}, 2048}, {[]int{2048}, 4096},
	} {
		wantRefused(t, anyPeaks(r, x.sizes...), api.Peak{Size: x.size, N: anyNode(r)})
	}
}

// P13.2: what Add answers hangs on nodes no more than Join does: briefs that aren't right are joined, too.
func TestAddOfWrongBriefs(t *testing.T) {
	r := rand.New(rand.NewSource(18))
	for _, a := range briefs(r) {
		for _, b := range briefs(r) {
			p := []api.Peak{{Size: 4, N: api.Node{H: anyHash(r), B: b}}, {Size: 2, N: api.Node{H: anyHash(r), B: a}}}
			for _, size := range []int{1, 2} {
				n := api.Peak{Size: size, N: api.Node{H: anyHash(r), B: b}}
				wantAdd(t, p, n, addOf(p, n))
			}
		}
	}
}

// P13.2, R3: Add writes neither into the list nor into the room behind it, and what was told before stays when it's called anew.
func TestAddChangesNothing(t *testing.T) {
	r := rand.New(rand.NewSource(19))
	for many := range 40 {
		room := anyPeaks(r, append(sizesOf(many), 32, 16, 8)...)
		p, kept := room[:len(sizesOf(many))], slices.Clone(room)
		one := api.Peak{Size: 1, N: anyNode(r)}
		first, e := tree.Add(p, one)
		was, want := slices.Clone(first), addOf(p, one)
		if e != api.OK || !slices.Equal(first, want) {
			t.Errorf("behind %d: %d", many, e)
		}
		second, _ := tree.Add(p, api.Peak{Size: 1, N: anyNode(r)})
		third, _ := tree.Add(first, one)
		fourth, _ := tree.Add(first, api.Peak{Size: 1, N: anyNode(r)})
		wasThird := addOf(first, one)
		if !slices.Equal(room, kept) || !slices.Equal(first, was) || !slices.Equal(third, wasThird) {
			t.Errorf("behind %d: one is seen in another", many)
		}
		for _, l := range [][]api.Peak{second, third, fourth} {
			clear(l[:cap(l)])
		}
		if !slices.Equal(room, kept) || !slices.Equal(first, was) {
			t.Errorf("behind %d: what is answered is shared", many)
		}
		clear(room)
		if !slices.Equal(first, was) {
			t.Errorf("behind %d: what was handed in is seen", many)
		}
	}
}

// P13.2, R3: what Add answers beside ErrArg shares nothing with what was handed in.
func TestRefusedSharesNothing(t *testing.T) {
	r := rand.New(rand.NewSource(20))
	for _, sizes := range [][]int{{1}, {4, 2, 1}, {4096}, {3}, {1, 2}} {
		p := anyPeaks(r, append(slices.Clone(sizes), 8, 4)...)
		kept := slices.Clone(p)
		got, e := tree.Add(p[:len(sizes)], api.Peak{Size: 8192})
		if e != api.ErrArg || !slices.Equal(got, kept[:len(sizes)]) {
			t.Errorf("%d: %d", sizes, e)
		}
		clear(got[:cap(got)])
		if !slices.Equal(p, kept) {
			t.Errorf("%d: shared", sizes)
		}
	}
}

// P13.2: Fold of none, of one, of more, by hand, right ones or not: their sizes don't count.
func TestFoldByHand(t *testing.T) {
	r := rand.New(rand.NewSource(21))
	if tree.Fold(nil) != noneOf() || tree.Fold([]api.Peak{}) != noneOf() {
		t.Error("of none")
	}
	for _, sizes := range [][4]int{{8, 4, 2, 1}, {1, 2, 4, 8}, {0, 0, 0, 0}, {3, -1, 7, 5}, {1, 1, 1, 1}, {4096, 4096, 2048, 1}, {math.MinInt, math.MaxInt, 1 << 62, 1 << 62}} {
		p := anyPeaks(r, sizes[:]...)
		a, b, c, d := p[0].N, p[1].N, p[2].N, p[3].N
		for n, want := range []api.Node{noneOf(), a, joinOf(a, b), joinOf(a, joinOf(b, c)), joinOf(a, joinOf(b, joinOf(c, d)))} {
			if got := tree.Fold(p[:n]); got != want {
				t.Errorf("%d of %d: %+v, not %+v", n, sizes, got, want)
			}
		}
	}
}

// P13.2: Fold of many, and of nodes whose briefs aren't right, writes into no list.
func TestFold(t *testing.T) {
	r := rand.New(rand.NewSource(22))
	var p []api.Peak
	for _, b := range append(briefs(r), briefs(r)...) {
		p = append(p, api.Peak{Size: r.Intn(5) - 1, N: api.Node{H: anyHash(r), B: b}})
	}
	for range 20 {
		r.Shuffle(len(p), func(i, k int) { p[i], p[k] = p[k], p[i] })
		kept := slices.Clone(p)
		for n := range len(p) + 1 {
			if got := tree.Fold(p[:n]); got != foldOf(p[:n]) {
				t.Errorf("of %d: %+v", n, got)
			}
		}
		if !slices.Equal(p, kept) {
			t.Error("the peaks are changed")
		}
	}
	many := make([]api.Peak, 3000)
	for i := range many {
		many[i].N = anyNode(r)
	}
	if tree.Fold(many) != foldOf(many) {
		t.Error("of 3000")
	}
}

// wantPeaks fails the test, unless Peaks answers just these.
func wantPeaks(t *testing.T, l []api.Node, want []api.Peak) {
	t.Helper()
	if got := tree.Peaks(l); !slices.Equal(got, want) {
		t.Errorf("of %d: %d, not %d, or of other nodes", len(l), sizesIn(got), sizesIn(want))
	}
}

// P13.2: Peaks of none, of few, of many, of just 4096.
func TestPeaks(t *testing.T) {
	r := rand.New(rand.NewSource(23))
	l := anyRow(r, 4096)
	kept := slices.Clone(l)
	wantPeaks(t, nil, nil)
	wantPeaks(t, []api.Node{}, nil)
	for many := range 70 {
		wantPeaks(t, l[:many], peaksOf(l[:many]))
	}
	for _, many := range []int{127, 128, 129, 1000, 1023, 1024, 1025, 2047, 2049, 4095, 4096} {
		wantPeaks(t, l[:many], peaksOf(l[:many]))
	}
	if got := tree.Peaks(l); len(got) != 1 || got[0] != (api.Peak{Size: 4096, N: rootOf(l)}) {
		t.Errorf("of 4096: %d", sizesIn(got))
	}
	if !slices.Equal(l, kept) {
		t.Error("the leaves are changed")
	}
}

// P13.2: Peaks of more than 4096 leaves: those behind are let go.
func TestPeaksOfMore(t *testing.T) {
	r := rand.New(rand.NewSource(24))
	l := anyRow(r, 9000)
	want := []api.Peak{{Size: 4096, N: rootOf(l[:4096])}}
	for _, many := range []int{4097, 4098, 4100, 5000, 8191, 8192, 8193, 9000} {
		wantPeaks(t, l[:many], want)
	}
}

// P13.2: Peaks by hand, and of nodes whose briefs aren't right.
func TestPeaksByHand(t *testing.T) {
	r := rand.New(rand.NewSource(25))
	l := anyRow(r, 7)
	two, four := joinOf(l[0], l[1]), joinOf(joinOf(l[0], l[1]), joinOf(l[2], l[3]))
	wantPeaks(t, l[:1], []api.Peak{{Size: 1, N: l[0]}})
	wantPeaks(t, l[:2], []api.Peak{{Size: 2, N: two}})
	wantPeaks(t, l[:3], []api.Peak{{Size: 2, N: two}, {Size: 1, N: l[2]}})
	wantPeaks(t, l[:4], []api.Peak{{Size: 4, N: four}})
	wantPeaks(t, l, []api.Peak{{Size: 4, N: four}, {Size: 2, N: joinOf(l[4], l[5])}, {Size: 1, N: l[6]}})
	var wrong []api.Node
	for _, b := range briefs(r) {
		wrong = append(wrong, api.Node{H: anyHash(r), B: b})
	}
	for many := range len(wrong) + 1 {
		wantPeaks(t, wrong[:many], peaksOf(wrong[:many]))
	}
}
