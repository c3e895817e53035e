package chain_test

import (
	"crypto/sha256"
	"encoding/binary"
	"math"
	"math/rand"
	"slices"
	"testing"

	"tabulary/api"
	"tabulary/chain"
)

// linkOf is the library's hash of a place and a hop, laid by hand.
func linkOf(i int, h api.Hop) api.Hash {
	text := []byte{4, 0, 0, 0, 4}
	text = append(text, 0, 0, 0, 0, 0, 0, 0, 8)
	text = binary.BigEndian.AppendUint64(text, uint64(i))
	for _, part := range []api.Hash{h.Leaf, h.One, h.Far} {
		text = append(text, 0, 0, 0, 0, 0, 0, 0, 32)
		text = append(text, part[:]...)
	}
	return sha256.Sum256(text)
}

// firstOf is the library's hash of no parts: the link of 0.
func firstOf() api.Hash { return sha256.Sum256([]byte{4, 0, 0, 0, 0}) }

// farOf is the far step, by dividing.
func farOf(i int) int {
	if i < 1 {
		return 0
	}
	if i%2 == 1 {
		return 1
	}
	return 2 * farOf(i/2)
}

// linksOf are all links of leaves.
func linksOf(leaves []api.Hash) []api.Hash {
	links := []api.Hash{firstOf()}
	for i := 1; i <= len(leaves); i++ {
		links = append(links, linkOf(i, api.Hop{Leaf: leaves[i-1], One: links[i-1], Far: links[i-farOf(i)]}))
	}
	return links
}

// placesOf are all places of the way from to back to from, both of them too.
func placesOf(to, from int) []int {
	places := []int{to}
	for p := to; p != from; places = append(places, p) {
		if p-farOf(p) >= from {
			p -= farOf(p)
		} else {
			p--
		}
	}
	return places
}

// pathOf is what Path has to answer, of leaves and their links.
func pathOf(leaves, links []api.Hash, from, to int) []api.Hop {
	var path []api.Hop
	for _, p := range placesOf(to, from) {
		if p != from {
			path = append(path, api.Hop{Leaf: leaves[p-1], One: links[p-1], Far: links[p-farOf(p)]})
		}
	}
	return path
}

// anyHash is any hash.
func anyHash(r *rand.Rand) (h api.Hash) {
	r.Read(h[:])
	return h
}

// anyRow are so many hashes, any ones.
func anyRow(r *rand.Rand, many int) []api.Hash {
	row := make([]api.Hash, many)
	for i := range row {
		row[i] = anyHash(r)
	}
	return row
}

// anyHop is any hop.
func anyHop(r *rand.Rand) api.Hop {
	return api.Hop{Leaf: anyHash(r), One: anyHash(r), Far: anyHash(r)}
}

// built is a way from to back to from that ends at a link, with all else any, and its head.
func built(r *rand.Rand, to, from int, end api.Hash) (api.Hash, []api.Hop) {
	places := placesOf(to, from)
	var l []api.Hop
	head := end
	for i := len(places) - 1; i > 0; i-- {
		place, next := places[i-1], places[i]
		h := anyHop(r)
		if place-next == farOf(place) {
			h.Far = head
		} else {
			h.One = head
		}
		head, l = linkOf(place, h), append(l, h)
	}
	slices.Reverse(l)
	return head, l
}

// wantPath fails the test, unless Path answers just that.
func wantPath(t *testing.T, leaves []api.Hash, from, to int, want []api.Hop) {
	t.Helper()
	if got, e := chain.Path(leaves, from, to); e != api.OK || !slices.Equal(got, want) {
		t.Errorf("Path of %d leaves, %d to %d: %x, %d; not %x", len(leaves), from, to, got, e, want)
	}
}

// wantNoPath fails the test, unless Path answers ErrArg and nothing.
func wantNoPath(t *testing.T, leaves []api.Hash, from, to int) {
	t.Helper()
	if got, e := chain.Path(leaves, from, to); e != api.ErrArg || len(got) != 0 {
		t.Errorf("Path of %d leaves, %d to %d: %x, %d", len(leaves), from, to, got, e)
	}
}

// wantEnd fails the test, unless Check answers that link.
func wantEnd(t *testing.T, head api.Hash, to, from int, l []api.Hop, end api.Hash) {
	t.Helper()
	if got, e := chain.Check(head, to, from, l); e != api.OK || got != end {
		t.Errorf("Check from %d back to %d, %d hops: %x, %d; not %x", to, from, len(l), got, e, end)
	}
}

// wantRefused fails the test, unless Check answers that error and nothing.
func wantRefused(t *testing.T, what string, head api.Hash, to, from int, l []api.Hop, want api.Errno) {
	t.Helper()
	if got, e := chain.Check(head, to, from, l); e != want || got != (api.Hash{}) {
		t.Errorf("Check from %d back to %d, %d hops, %s: %x, %d; not %d", to, from, len(l), what, got, e, want)
	}
}

// wantNone fails the test, unless Clash answers none and false, whichever of the two is the first.
func wantNone(t *testing.T, what string, head api.Hash, to, from int, a, b []api.Hop) {
	t.Helper()
	for _, two := range [][2][]api.Hop{{a, b}, {b, a}} {
		if l, is := chain.Clash(head, to, from, two[0], two[1]); len(l) != 0 || is {
			t.Errorf("Clash from %d back to %d, %d and %d hops, %s: %q, %v", to, from, len(two[0]), len(two[1]), what, l, is)
		}
	}
}

// changed is a list with one bit of one hop changed: of Leaf (bits 0 to 255), One (256 to 511) or Far (512 to 767).
func changed(l []api.Hop, i, bit int) []api.Hop {
	l = slices.Clone(l)
	field := []*api.Hash{&l[i].Leaf, &l[i].One, &l[i].Far}[bit/256]
	field[bit%256/8] ^= 1 << (bit % 8)
	return l
}

// A way is a pair of places that may be no ends of a way, in a chain of so many.
type way struct{ from, to int }

// wrongWays are pairs of places that are refused of a chain of so many.
func wrongWays(many int) []way {
	out := []way{
		{-1, 0}, {-1, many}, {-1, -1}, {-2, -1}, {-1, -2}, {0, -1}, {math.MinInt, 0}, {math.MinInt, many}, {math.MinInt, math.MinInt}, {math.MinInt, math.MaxInt},
		{1, 0}, {many, many - 1}, {many + 1, many}, {math.MaxInt, 0}, {math.MaxInt, many}, {math.MaxInt, math.MinInt}, {0, math.MinInt}, {many, math.MinInt},
		{0, many + 1}, {many, many + 1}, {many + 1, many + 1}, {many + 2, many + 1}, {0, many + 2}, {0, 1 << 32}, {1 << 32, 1 << 32}, {0, math.MaxInt}, {math.MaxInt, math.MaxInt}, {math.MaxInt - 1, math.MaxInt}, {-1, many + 1},
	}
	if many > 0 {
		out = append(out, way{many, 0})
	}
	return out
}
