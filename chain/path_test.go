package chain_test

import (
	"math/rand"
	"slices"
	"testing"

	"tabulary/api"
	"tabulary/chain"
)

// P12.2: steps back by hand: to itself, to 0, to the one ahead, where the far step just reaches the end, where it would go one below it.
func TestStepsByHand(t *testing.T) {
	leaves := anyRow(rand.New(rand.NewSource(7)), 100)
	links := linksOf(leaves)
	for _, x := range []struct {
		to, from int
		places   []int // that steps go from
	}{
		{13, 5, []int{13, 12, 8, 7, 6}},
		{0, 0, nil}, {1, 1, nil}, {64, 64, nil}, {100, 100, nil},
		{1, 0, []int{1}}, {2, 0, []int{2}}, {3, 0, []int{3, 2}}, {7, 0, []int{7, 6, 4}}, {8, 0, []int{8}}, {64, 0, []int{64}}, {63, 0, []int{63, 62, 60, 56, 48, 32}}, {100, 0, []int{100, 96, 64}},
		{2, 1, []int{2}}, {3, 2, []int{3}}, {64, 63, []int{64}}, {65, 64, []int{65}}, {13, 12, []int{13}},
		{12, 8, []int{12}}, {12, 9, []int{12, 11, 10}}, {12, 7, []int{12, 8}},
		{64, 1, []int{64, 63, 62, 60, 56, 48, 32, 31, 30, 28, 24, 16, 15, 14, 12, 8, 7, 6, 4, 3, 2}},
		{6, 4, []int{6}}, {6, 5, []int{6}}, {10, 8, []int{10}}, {11, 8, []int{11, 10}}, {10, 7, []int{10, 8}},
		{96, 64, []int{96}}, {96, 65, []int{96, 95, 94, 92, 88, 80, 79, 78, 76, 72, 71, 70, 68, 67, 66}},
	} {
		var want []api.Hop
		for _, p := range x.places {
			want = append(want, api.Hop{Leaf: leaves[p-1], One: links[p-1], Far: links[p-farOf(p)]})
		}
		wantPath(t, leaves, x.from, x.to, want)
		wantEnd(t, links[x.to], x.to, x.from, want, links[x.from])
	}
}

// P12.2: Path of as many leaves as the way needs, and of more, changes nothing.
func TestPath(t *testing.T) {
	leaves := anyRow(rand.New(rand.NewSource(8)), 50)
	links, kept := linksOf(leaves), slices.Clone(leaves)
	for to := range 51 {
		for from := range to + 1 {
			want := pathOf(leaves, links, from, to)
			wantPath(t, leaves, from, to, want)
			wantPath(t, leaves[:to], from, to, want)
		}
	}
	path, _ := chain.Path(leaves, 3, 50)
	clear(path[:cap(path)])
	if !slices.Equal(leaves, kept) {
		t.Error("the leaves are changed")
	}
}

// P12.2: Path of no leaves, and of more than a log has events.
func TestPathOfNoneAndMany(t *testing.T) {
	wantPath(t, nil, 0, 0, nil)
	wantPath(t, []api.Hash{}, 0, 0, nil)
	leaves := anyRow(rand.New(rand.NewSource(9)), 4200)
	links := linksOf(leaves)
	for _, x := range []way{{0, 4200}, {1, 4200}, {4199, 4200}, {4200, 4200}, {4096, 4097}, {0, 4097}, {0, 4096}, {2049, 4096}, {4095, 4096}} {
		wantPath(t, leaves, x.from, x.to, pathOf(leaves, links, x.from, x.to))
	}
}

// P12.2: Path from below 0, from above to, to above how many leaves there are.
func TestPathRefused(t *testing.T) {
	leaves := anyRow(rand.New(rand.NewSource(10)), 40)
	for _, many := range []int{0, 1, 2, 13, 40} {
		for _, x := range wrongWays(many) {
			// Leaves behind the end of the row are none of it.
			wantNoPath(t, leaves[:many], x.from, x.to)
		}
	}
	for _, x := range wrongWays(0) {
		wantNoPath(t, nil, x.from, x.to)
	}
}

// P12.2: with no step the head is told, whatever it is.
func TestCheckOfNoStep(t *testing.T) {
	r := rand.New(rand.NewSource(11))
	for _, head := range []api.Hash{{}, anyHash(r), firstOf()} {
		for _, at := range []int{0, 1, 2, 13, 4095, 4096} {
			wantEnd(t, head, at, at, nil, head)
			wantEnd(t, head, at, at, []api.Hop{}, head)
			wantRefused(t, "one hop too many", head, at, at, []api.Hop{anyHop(r)}, api.ErrProof)
			wantRefused(t, "one hop too many", head, at, at, []api.Hop{{}}, api.ErrProof)
		}
	}
}

// P12.2: Check goes to One or to Far by the step, and asks nothing of the other one, of the Leaf, or of the end.
func TestCheckGoesByTheStep(t *testing.T) {
	r := rand.New(rand.NewSource(12))
	for to := range 34 {
		for from := range to + 1 {
			end := anyHash(r)
			head, l := built(r, to, from, end)
			wantEnd(t, head, to, from, l, end)
		}
	}
	for _, x := range []way{{0, 4096}, {1, 4096}, {2048, 4096}, {2049, 4096}, {4095, 4096}, {0, 4095}, {1, 4095}, {1025, 3072}} {
		end := anyHash(r)
		head, l := built(r, x.to, x.from, end)
		wantEnd(t, head, x.to, x.from, l, end)
	}
	// The one ahead of an odd place is a far step from it, too.
	h := anyHop(r)
	wantEnd(t, linkOf(1, h), 1, 0, []api.Hop{h}, h.Far)
	wantEnd(t, linkOf(13, h), 13, 12, []api.Hop{h}, h.Far)
	wantEnd(t, linkOf(2, h), 2, 0, []api.Hop{h}, h.Far)
	wantEnd(t, linkOf(2, h), 2, 1, []api.Hop{h}, h.One)
	wantEnd(t, linkOf(12, h), 12, 11, []api.Hop{h}, h.One)
	wantEnd(t, linkOf(12, h), 12, 8, []api.Hop{h}, h.Far)
}

// P12.2: a hop that goes on at the other one proves nothing.
func TestCheckOfTheOtherOne(t *testing.T) {
	r := rand.New(rand.NewSource(13))
	for _, x := range []struct{ to, from, next int }{{12, 9, 11}, {12, 7, 8}, {13, 5, 12}, {3, 0, 2}, {64, 1, 63}} {
		end := anyHash(r)
		link, l := built(r, x.next, x.from, end)
		h := anyHop(r)
		if x.next == x.to-farOf(x.to) {
			h.One = link
		} else {
			h.Far = link
		}
		l = append([]api.Hop{h}, l...)
		wantRefused(t, "goes on at the other one", linkOf(x.to, h), x.to, x.from, l, api.ErrProof)
	}
}

// P12.2: a way back that is cut, made longer, or empty proves nothing.
func TestCheckOfFewerAndMore(t *testing.T) {
	r := rand.New(rand.NewSource(14))
	leaves := anyRow(r, 40)
	links := linksOf(leaves)
	for to := 1; to <= 40; to++ {
		for _, from := range []int{0, 1, to / 2, to - 1} {
			l := pathOf(leaves, links, min(from, to-1), to)
			from := min(from, to-1)
			room := append(slices.Clone(l), anyHop(r), api.Hop{})
			for n := range l {
				wantRefused(t, "cut", links[to], to, from, room[:n], api.ErrProof)
				wantRefused(t, "cut ahead", links[to], to, from, l[n+1:], api.ErrProof)
				wantRefused(t, "one taken out", links[to], to, from, slices.Delete(slices.Clone(l), n, n+1), api.ErrProof)
				wantRefused(t, "one twice", links[to], to, from, slices.Insert(slices.Clone(l), n, l[n]), api.ErrProof)
			}
			wantRefused(t, "none", links[to], to, from, nil, api.ErrProof)
			wantRefused(t, "one too many", links[to], to, from, room[:len(l)+1], api.ErrProof)
			wantRefused(t, "two too many", links[to], to, from, room, api.ErrProof)
			wantRefused(t, "twice", links[to], to, from, append(slices.Clone(l), l...), api.ErrProof)
			if from > 0 {
				// What goes on behind the end is right, but not asked for.
				wantRefused(t, "goes on", links[to], to, from, append(slices.Clone(l), pathOf(leaves, links, 0, from)...), api.ErrProof)
			}
		}
	}
}

// P12.2: each bit of each hop counts: Leaf, One and Far, in the first, in the middle, in the last hop.
func TestCheckOfOneBit(t *testing.T) {
	leaves := anyRow(rand.New(rand.NewSource(15)), 64)
	links := linksOf(leaves)
	for _, x := range []way{{5, 13}, {8, 12}, {0, 1}, {63, 64}, {0, 63}} {
		l := pathOf(leaves, links, x.from, x.to)
		for i := range l {
			for bit := range 768 {
				wantRefused(t, "one bit", links[x.to], x.to, x.from, changed(l, i, bit), api.ErrProof)
			}
		}
		for bit := range 256 {
			head := links[x.to]
			head[bit/8] ^= 1 << (bit % 8)
			wantRefused(t, "one bit of the head", head, x.to, x.from, l, api.ErrProof)
		}
	}
}

// P12.2: another head, hops that are exchanged, other places.
func TestCheckOfOthers(t *testing.T) {
	r := rand.New(rand.NewSource(16))
	leaves := anyRow(r, 40)
	links := linksOf(leaves)
	for _, x := range []way{{5, 13}, {0, 40}, {0, 39}, {1, 32}, {9, 12}, {11, 12}} {
		l := pathOf(leaves, links, x.from, x.to)
		for _, head := range []api.Hash{{}, anyHash(r), firstOf(), links[x.from], links[x.to-1], leaves[x.to-1]} {
			wantRefused(t, "another head", head, x.to, x.from, l, api.ErrProof)
		}
		for i := range l {
			for j := range i {
				swapped := slices.Clone(l)
				swapped[i], swapped[j] = l[j], l[i]
				wantRefused(t, "exchanged", links[x.to], x.to, x.from, swapped, api.ErrProof)
			}
			fields := slices.Clone(l)
			fields[i].One, fields[i].Far = l[i].Far, l[i].One
			if fields[i] != l[i] {
				wantRefused(t, "One and Far exchanged", links[x.to], x.to, x.from, fields, api.ErrProof)
			}
		}
		for to := x.from; to < 50; to++ {
			if to != x.to {
				wantRefused(t, "to elsewhere", links[x.to], to, x.from, l, api.ErrProof)
			}
		}
	}
	// Between all other places, too: only to 4 the steps go from the same ones, and the last one ends elsewhere.
	l := pathOf(leaves, links, 5, 13)
	for to := range 50 {
		for from := range to + 1 {
			if to != 13 || from != 5 && from != 4 {
				wantRefused(t, "elsewhere", links[13], to, from, l, api.ErrProof)
			}
		}
	}
	wantEnd(t, links[13], 13, 5, l, links[5])
	wantEnd(t, links[13], 13, 4, l, links[4])
}

// P12.2: ErrArg goes ahead of ErrProof, with a way that is none and with one that would be.
func TestCheckWrongPlaces(t *testing.T) {
	r := rand.New(rand.NewSource(17))
	leaves := anyRow(r, 4100)
	links := linksOf(leaves)
	for _, x := range wrongWays(4096) {
		wantRefused(t, "wrong places", links[13], x.to, x.from, pathOf(leaves, links, 5, 13), api.ErrArg)
		wantRefused(t, "wrong places", anyHash(r), x.to, x.from, nil, api.ErrArg)
		wantRefused(t, "wrong places", api.Hash{}, x.to, x.from, []api.Hop{{}}, api.ErrArg)
	}
	for _, from := range []int{0, 1, 4095, 4096, 4097} {
		wantRefused(t, "too far", links[4097], 4097, from, pathOf(leaves, links, from, 4097), api.ErrArg)
		wantRefused(t, "too far", links[4100], 4100, from, pathOf(leaves, links, from, 4100), api.ErrArg)
		if from <= 4096 {
			wantEnd(t, links[4096], 4096, from, pathOf(leaves, links, from, 4096), links[from])
		}
	}
}

// P12.2, R3: Check writes into no list, and answers the same again.
func TestCheckChangesNothing(t *testing.T) {
	r := rand.New(rand.NewSource(18))
	leaves := anyRow(r, 13)
	links := linksOf(leaves)
	room := append(pathOf(leaves, links, 5, 13), anyHop(r), anyHop(r))
	kept := slices.Clone(room)
	for range 2 {
		for n := range len(room) + 1 {
			chain.Check(links[13], 13, 5, room[:n])
			chain.Clash(links[13], 13, 5, room[:n], room)
		}
		wantEnd(t, links[13], 13, 5, room[:5], links[5])
	}
	if !slices.Equal(room, kept) {
		t.Error("the hops are changed")
	}
}
