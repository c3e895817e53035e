package chain_test

import (
	"math/bits"
	"math/rand"
	"slices"
	"testing"

	"tabulary/api"
	"tabulary/chain"
)

// P12.4: a path is checked, from its head on, and tells the link of its end: between all places of a short chain.
func TestPathIsChecked(t *testing.T) {
	leaves := anyRow(rand.New(rand.NewSource(31)), 66)
	links := chain.Links(leaves)
	for to := range 67 {
		for from := range to + 1 {
			l, e := chain.Path(leaves, from, to)
			b := bits.Len(uint(to))
			if e != api.OK || len(l) > (b+1)*(b+2)/2 {
				t.Fatalf("%d to %d: %d hops, %d", from, to, len(l), e)
			}
			wantEnd(t, links[to], to, from, l, links[from])
			for i := range l {
				wantRefused(t, "one bit", links[to], to, from, changed(l, i, (to*67+from*31+i)%768), api.ErrProof)
			}
		}
	}
}

// P12.4: so it is in a chain of as many events as a log has, and of any leaves.
func TestLongPathIsChecked(t *testing.T) {
	r := rand.New(rand.NewSource(32))
	leaves := anyRow(r, 4096)
	links := chain.Links(leaves)
	ways := []way{{0, 4096}, {1, 4096}, {2047, 4096}, {2048, 4096}, {2049, 4096}, {4095, 4096}, {4096, 4096}, {0, 4095}, {1, 4095}, {1, 2048}, {1, 2049}, {1025, 3072}}
	for range 60 {
		to := r.Intn(4097)
		ways = append(ways, way{r.Intn(to + 1), to})
	}
	for _, x := range ways {
		l, e := chain.Path(leaves, x.from, x.to)
		b := bits.Len(uint(x.to))
		if e != api.OK || len(l) > (b+1)*(b+2)/2 {
			t.Fatalf("%d to %d: %d hops, %d", x.from, x.to, len(l), e)
		}
		wantEnd(t, links[x.to], x.to, x.from, l, links[x.from])
		for _, i := range []int{0, len(l) / 2, len(l) - 1} {
			if len(l) > 0 {
				wantRefused(t, "one bit", links[x.to], x.to, x.from, changed(l, i, r.Intn(768)), api.ErrProof)
			}
		}
	}
}

// P12.4: two chains that part have no way that is checked from both heads; those that go on have the same links as far as both go.
func TestChainsThatPart(t *testing.T) {
	r := rand.New(rand.NewSource(33))
	leaves := anyRow(r, 40)
	links := chain.Links(leaves)
	for part := range 40 {
		others := slices.Clone(leaves)
		others[part] = anyHash(r)
		parted := chain.Links(others)
		for i := range 41 {
			if (links[i] == parted[i]) != (i <= part) {
				t.Errorf("parted at %d: link %d", part, i)
			}
		}
		for _, from := range []int{0, part, min(part+1, 39), 39} {
			l, _ := chain.Path(leaves, from, 40)
			m, _ := chain.Path(others, from, 40)
			wantEnd(t, parted[40], 40, from, m, parted[from])
			wantRefused(t, "of another chain", links[40], 40, from, m, api.ErrProof)
			wantRefused(t, "of another chain", parted[40], 40, from, l, api.ErrProof)
			wantNone(t, "of two chains", links[40], 40, from, l, m)
			wantNone(t, "of two chains", parted[40], 40, from, l, m)
		}
	}
}

// P12.3: none, with the hash as it is: nobody knows two texts that have one.
func TestClashOfNone(t *testing.T) {
	r := rand.New(rand.NewSource(34))
	leaves := anyRow(r, 64)
	links := chain.Links(leaves)
	for _, x := range []way{{5, 13}, {0, 1}, {63, 64}, {9, 12}, {1, 64}, {0, 63}, {7, 7}} {
		l, _ := chain.Path(leaves, x.from, x.to)
		head := links[x.to]
		wantNone(t, "the same", head, x.to, x.from, l, l)
		wantNone(t, "the same", head, x.to, x.from, l, slices.Clone(l))
		wantNone(t, "one too many", head, x.to, x.from, l, append(slices.Clone(l), anyHop(r)))
		wantNone(t, "another head", anyHash(r), x.to, x.from, l, l)
		for i := range l {
			one, two := changed(l, i, r.Intn(768)), changed(l, r.Intn(len(l)), r.Intn(768))
			wantNone(t, "one isn't checked", head, x.to, x.from, l, one)
			wantNone(t, "both aren't", head, x.to, x.from, two, one)
			wantNone(t, "one isn't checked", head, x.to, x.from, l, l[:i])
			wantNone(t, "both aren't", head, x.to, x.from, one, l[:i])
		}
		for _, wrong := range wrongWays(4096) {
			wantNone(t, "wrong places", head, wrong.to, wrong.from, l, l)
			wantNone(t, "wrong places", head, wrong.to, wrong.from, nil, nil)
			wantNone(t, "wrong places", head, wrong.to, wrong.from, l, append(slices.Clone(l), anyHop(r)))
		}
	}
	wantNone(t, "no step", anyHash(r), 7, 7, nil, nil)
	wantNone(t, "no step", anyHash(r), 7, 7, []api.Hop{anyHop(r)}, []api.Hop{anyHop(r)})
}
