package chain_test

import (
	"encoding/hex"
	"math"
	"math/rand"
	"slices"
	"testing"

	"tabulary/api"
	"tabulary/chain"
	"tabulary/tag"
)

// P12.1: the far step, by hand: of 1, of odd ones, of powers of two, of the greatest, of none.
func TestFarByHand(t *testing.T) {
	for _, x := range []struct{ i, want int }{
		{1, 1}, {2, 2}, {3, 1}, {4, 4}, {5, 1}, {6, 2}, {7, 1}, {8, 8}, {12, 4}, {20, 4}, {24, 8}, {96, 32}, {4095, 1}, {4096, 4096}, {4097, 1},
		{1 << 31, 1 << 31}, {1 << 32, 1 << 32}, {3 << 32, 1 << 32}, {1 << 62, 1 << 62}, {1<<62 + 1<<61, 1 << 61}, {1<<62 - 1, 1},
		{math.MaxInt, 1}, {math.MaxInt - 1, 2}, {math.MaxInt - 3, 4}, {math.MaxInt - 1<<61 + 1, 1 << 61},
		{0, 0}, {-1, 0}, {-2, 0}, {-4, 0}, {-12, 0}, {-1 << 32, 0}, {-1 << 62, 0}, {math.MinInt + 1, 0}, {math.MinInt, 0},
	} {
		if got := chain.Far(x.i); got != x.want {
			t.Errorf("%d: %d, not %d", x.i, got, x.want)
		}
	}
}

// P12.1: the far step of each number, and of each odd one times each power of two.
func TestFar(t *testing.T) {
	for i := -300; i < 9000; i++ {
		if got := chain.Far(i); got != farOf(i) {
			t.Errorf("%d: %d", i, got)
		}
	}
	for power := range 63 {
		for odd := 1; odd <= math.MaxInt>>power && odd < 50; odd += 2 {
			if got := chain.Far(odd << power); got != 1<<power {
				t.Errorf("%d times 2 to %d: %d", odd, power, got)
			}
		}
	}
}

// P12.1: a link, of places that are any, those below 0 too.
func TestLink(t *testing.T) {
	r := rand.New(rand.NewSource(1))
	places := []int{0, 1, 2, 255, 256, 65535, 65536, 1<<32 - 1, 1 << 32, 1 << 62, math.MaxInt, -1, -2, -255, -256, -1 << 32, math.MinInt + 1, math.MinInt}
	for range 200 {
		places = append(places, int(r.Uint64()))
	}
	for _, i := range places {
		for _, h := range []api.Hop{{}, anyHop(r), {Leaf: anyHash(r)}, {One: anyHash(r)}, {Far: anyHash(r)}} {
			if got := chain.Link(i, h); got != linkOf(i, h) {
				t.Errorf("%d, %x: %x", i, h, got)
			}
		}
	}
}

// P12.1: a link by hand, its number laid byte by byte.
func TestLinkByHand(t *testing.T) {
	h := api.Hop{Leaf: api.Hash{0: 'l'}, One: api.Hash{31: 'o'}, Far: api.Hash{15: 'f'}}
	for _, x := range []struct {
		i    int
		text string
	}{
		{0x0102030405060708, "0102030405060708"},
		{-2, "fffffffffffffffe"},
		{math.MinInt, "8000000000000000"},
	} {
		number, _ := hex.DecodeString(x.text)
		if got := chain.Link(x.i, h); got != tag.Of(api.KLink, string(number), string(h.Leaf[:]), string(h.One[:]), string(h.Far[:])) {
			t.Errorf("%d: %x", x.i, got)
		}
	}
}

// P12.1: no two unlike places or hops have one link.
func TestLinksToldApart(t *testing.T) {
	a, b := api.Hash{0: 1}, api.Hash{0: 2}
	seen := map[api.Hash]bool{chain.Links(nil)[0]: true}
	var hops []api.Hop
	for _, leaf := range []api.Hash{{}, a, b} {
		for _, one := range []api.Hash{{}, a, b} {
			for _, far := range []api.Hash{{}, a, b} {
				hops = append(hops, api.Hop{Leaf: leaf, One: one, Far: far})
			}
		}
	}
	for _, i := range []int{-1, 0, 1, 2} {
		for _, h := range hops {
			link := chain.Link(i, h)
			if seen[link] {
				t.Errorf("%d, %x: a link that there was", i, h)
			}
			seen[link] = true
		}
	}
}

// P12.1: Links, of none, of one, of more.
func TestLinks(t *testing.T) {
	r := rand.New(rand.NewSource(2))
	for _, many := range []int{0, 1, 2, 3, 4, 5, 7, 8, 9, 13, 63, 64, 65, 100, 4096, 5000} {
		leaves := anyRow(r, many)
		if many == 0 {
			leaves = nil
		}
		kept := slices.Clone(leaves)
		got := chain.Links(leaves)
		if len(got) != many+1 || !slices.Equal(got, linksOf(leaves)) {
			t.Errorf("%d leaves: %d links", many, len(got))
		}
		clear(got[:cap(got)])
		if !slices.Equal(leaves, kept) {
			t.Errorf("%d leaves: changed", many)
		}
	}
}

// P12.1: Links by hand, of thirteen: each reaches to the one ahead, and to the far one.
func TestLinksByHand(t *testing.T) {
	leaves := anyRow(rand.New(rand.NewSource(3)), 13)
	l := chain.Links(leaves)
	if l[0] != firstOf() || l[0] != tag.Of(api.KLink) {
		t.Errorf("the first one: %x", l[0])
	}
	for _, x := range []struct{ i, far int }{{1, 0}, {2, 0}, {3, 2}, {4, 0}, {5, 4}, {6, 4}, {7, 6}, {8, 0}, {9, 8}, {10, 8}, {11, 10}, {12, 8}, {13, 12}} {
		if l[x.i] != linkOf(x.i, api.Hop{Leaf: leaves[x.i-1], One: l[x.i-1], Far: l[x.far]}) {
			t.Errorf("%d: %x", x.i, l[x.i])
		}
	}
}

// P12.1: Add, behind none, behind that of 0 alone, behind each that follows, is Links with one more.
func TestAdd(t *testing.T) {
	leaves := anyRow(rand.New(rand.NewSource(4)), 140)
	want := linksOf(leaves)
	if got := chain.Add(nil, leaves[0]); !slices.Equal(got, want[:2]) {
		t.Errorf("behind none: %x", got)
	}
	if got := chain.Add([]api.Hash{}, leaves[0]); !slices.Equal(got, want[:2]) {
		t.Errorf("behind none: %x", got)
	}
	links := chain.Links(nil)
	for i, leaf := range leaves {
		links = chain.Add(links, leaf)
		if !slices.Equal(links, want[:i+2]) {
			t.Fatalf("%d: %x", i, links)
		}
	}
}

// P12.1: Add takes links as they stand, even such as are none of any leaves.
func TestAddBehindAny(t *testing.T) {
	r := rand.New(rand.NewSource(5))
	for _, many := range []int{1, 2, 3, 4, 6, 8, 12, 16, 31, 32, 33, 64, 1000, 1024} {
		row, leaf := anyRow(r, many), anyHash(r)
		want := append(slices.Clone(row), linkOf(many, api.Hop{Leaf: leaf, One: row[many-1], Far: row[many-farOf(many)]}))
		if got := chain.Add(row, leaf); !slices.Equal(got, want) {
			t.Errorf("behind %d: %x", many, got[many:])
		}
	}
}

// P12.1, R3: Add leaves the row as it was, with the room behind its end, and two rows made of one don't see each other.
func TestAddChangesNothing(t *testing.T) {
	r := rand.New(rand.NewSource(6))
	for _, many := range []int{0, 1, 2, 7, 8} {
		row := anyRow(r, many+5)
		kept := slices.Clone(row)
		a, b := anyHash(r), anyHash(r)
		one := chain.Add(row[:many], a)
		was := slices.Clone(one)
		two := chain.Add(row[:many], b)
		if !slices.Equal(row, kept) {
			t.Errorf("behind %d: the row is changed", many)
		}
		clear(two[:cap(two)])
		if !slices.Equal(one, was) || !slices.Equal(row, kept) {
			t.Errorf("behind %d: one is seen in the other", many)
		}
		three := chain.Add(one, b)
		four := chain.Add(one, a)
		if three[len(one)] == four[len(one)] || !slices.Equal(three[:len(one)], four[:len(one)]) {
			t.Errorf("behind %d: two behind one", many)
		}
		clear(one)
		if !slices.Equal(three[:len(was)], was) || !slices.Equal(row, kept) {
			t.Errorf("behind %d: what was handed in is seen", many)
		}
	}
}
