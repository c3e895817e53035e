package audit_test

import (
	"fmt"
	"math"
	"slices"
	"testing"

	"tabulary/api"
	"tabulary/audit"
)

// P19.2: the first state is taken, of an empty log, of few events and of many, whatever proofs stand beside it.
func TestTakeFirst(t *testing.T) {
	for _, n := range []int{0, 1, 2, 3, 5, 8, 20, 4095, 4096} {
		l := logOf(n)
		s := stateOf(l)
		for key := range 4 {
			what := fmt.Sprintf("%d events, key %d", n, key)
			x := signedBy(ourKeys(), key, s)
			wantTaken(t, what, fresh(ourKeys()), x, api.Growth{}, nil)
			wantTaken(t, what+", any proofs", fresh(ourKeys()), x, anyGrowth(), anyWay())
		}
		wantTaken(t, fmt.Sprint("proofs from none to ", n), fresh(ourKeys()), told(s), growthOf(l, 0), wayOf(l, 0))
	}
}

// P19.2: all that is asked of a first state is its signature and its number: of the root and the head nothing, nor of what is left of another state.
func TestTakeFirstOfAny(t *testing.T) {
	for _, n := range []int{0, 1, 4095, 4096} {
		x := told(api.State{N: n, Root: anyNode(1), Head: anyHash(2)})
		wantTaken(t, fmt.Sprint("any state of ", n), fresh(ourKeys()), x, api.Growth{}, nil)
		a := fresh(ourKeys())
		a.S = stateOf(logOf(5))
		wantTaken(t, fmt.Sprint("a state that it hasn't, ", n), a, x, api.Growth{}, nil)
	}
	for _, k := range []api.Keys{{Bits: 1}, {Seed: "a", Bits: 256}, {Seed: "b", Height: 6, Bits: 1}, {Seed: "c", Height: 1, Bits: 256}} {
		wantTaken(t, fmt.Sprintf("%+v", k), fresh(k), signedBy(k, 1<<k.Height-1, stateOf(logOf(3))), api.Growth{}, nil)
	}
}

// P19.2: the same state is taken once more, by the same key or by another one; no proof is looked at.
func TestTakeAgain(t *testing.T) {
	for _, n := range []int{0, 1, 2, 7, 20, 4096} {
		l := logOf(n)
		s := stateOf(l)
		for key := range 4 {
			x := signedBy(ourKeys(), key, s)
			for i, g := range []api.Growth{{}, anyGrowth(), growthOf(l, n), growthOf(l, 0)} {
				for k, way := range [][]api.Hop{nil, anyWay(), wayOf(l, 0)} {
					wantTaken(t, fmt.Sprintf("%d events, key %d, growth %d, way %d", n, key, i, k), knowing(s), x, g, way)
				}
			}
		}
	}
}

// P19.2: a state behind some messages more is taken, from none on, from one on, from several.
func TestTakeNext(t *testing.T) {
	for n := range 22 {
		l := logOf(n)
		x := told(stateOf(l))
		for m := range n {
			wantTaken(t, fmt.Sprintf("from %d to %d", m, n), knowing(stateOf(l[:m])), x, growthOf(l, m), wayOf(l, m))
		}
	}
	l := logOf(4096)
	for _, two := range [][2]int{{0, 4096}, {1, 4096}, {2048, 4096}, {3000, 4095}, {4095, 4096}, {2047, 2049}, {127, 128}} {
		m, n := two[0], two[1]
		wantTaken(t, fmt.Sprintf("from %d to %d", m, n), knowing(stateOf(l[:m])), told(stateOf(l[:n])), growthOf(l[:n], m), wayOf(l[:n], m))
	}
}

// P19.2: states are taken one behind the other, with deletions between.
func TestTakeRow(t *testing.T) {
	for _, gone := range []func(i int) bool{func(int) bool { return false }, func(i int) bool { return i%2 == 1 }, func(int) bool { return true }} {
		a, at := fresh(ourKeys()), 0
		for step, n := range []int{0, 1, 1, 2, 5, 6, 13, 16, 16, 33, 40} {
			l := dropped(logOf(n), func(i int) bool { return gone(i) && i < n-step })
			x := signedBy(ourKeys(), step%4, stateOf(l))
			wantTaken(t, fmt.Sprintf("from %d to %d", at, n), a, x, growthOf(l, at), wayOf(l, at))
			a, _ = audit.Take(a, x, growthOf(l, at), wayOf(l, at))
			at = n
		}
		if want := knowing(stateOf(logOf(40))); a != want {
			t.Errorf("%+v, not %+v", a, want)
		}
	}
}

// A claim is a state, and what proves that it is one behind the auditor's.
type claim struct {
	a   api.Auditor
	g   api.Growth
	way []api.Hop
}

// claimsOf are auditors of all kinds, to which a state of the first 5 of 8 events is told with proofs that are right, as far as there are some.
func claimsOf(l []api.Slot) map[string]claim {
	s, other := stateOf(l[:5]), stateOf(otherLog(5, 3))
	return map[string]claim{
		"no state":      {a: fresh(ourKeys())},
		"none of 0":     {a: knowing(stateOf(nil)), g: growthOf(l[:5], 0), way: wayOf(l[:5], 0)},
		"one of 3":      {a: knowing(stateOf(l[:3])), g: growthOf(l[:5], 3), way: wayOf(l[:5], 3)},
		"no proofs":     {a: knowing(stateOf(l[:3]))},
		"the same one":  {a: knowing(s)},
		"a fork":        {a: knowing(other)},
		"one of 8":      {a: knowing(stateOf(l)), g: growthOf(l, 5), way: wayOf(l, 5)},
		"not right":     {a: knowing(api.State{N: -1})},
		"far too great": {a: knowing(api.State{N: math.MaxInt})},
	}
}

// unlikeStates are a state changed in its number, its root, its head.
func unlikeStates(s api.State) []api.State {
	var out []api.State
	for _, n := range append(farNumbers(), -1, 0, 3, 4, 6, 8, 4096, 4097) {
		out = append(out, with(s, func(s *api.State) { s.N = n }))
	}
	for _, n := range changedNodes(s.Root) {
		out = append(out, with(s, func(s *api.State) { s.Root = n }))
	}
	for _, h := range []api.Hash{{}, anyHash(1), s.Root.H} {
		out = append(out, with(s, func(s *api.State) { s.Head = h }))
	}
	return out
}

// unlikeSigs are a signature changed in its key's number, its parts, its path.
func unlikeSigs(g api.Sig) []api.Sig {
	var out []api.Sig
	for _, key := range append(farNumbers(), -1, 0, 2, 3, 4, 5) {
		if key != g.Key {
			out = append(out, api.Sig{Key: key, L: g.L, Path: g.Path})
		}
	}
	for _, l := range slices.Concat(less(g.L)[:6], more(g.L, anyHash(1)), more(g.L, api.Hash{})) {
		out = append(out, api.Sig{Key: g.Key, L: l, Path: g.Path})
	}
	for _, path := range slices.Concat(less(g.Path), more(g.Path, anyHash(1)), more(g.Path, api.Hash{})) {
		out = append(out, api.Sig{Key: g.Key, L: g.L, Path: path})
	}
	for _, i := range []int{0, 1, len(g.L) / 2, len(g.L) - 1} {
		l := slices.Clone(g.L)
		l[i][31] ^= 1
		out = append(out, api.Sig{Key: g.Key, L: l, Path: g.Path})
	}
	for i := range g.Path {
		path := slices.Clone(g.Path)
		path[i][0] ^= 0x80
		out = append(out, api.Sig{Key: g.Key, L: g.L, Path: path})
	}
	return append(out, api.Sig{}, api.Sig{Key: g.Key, L: g.Path, Path: g.L})
}

// P19.2: chapter 9's error goes ahead of all others: of a state that is unlike the signed one, of a signature that isn't one.
func TestTakeUnsigned(t *testing.T) {
	l := logOf(8)
	x := told(stateOf(l[:5]))
	for what, c := range claimsOf(l) {
		for _, s := range unlikeStates(x.S) {
			wantRefused(t, fmt.Sprintf("%s, %+v", what, s), api.ErrSig, c.a, api.Signed{S: s, G: x.G}, c.g, c.way)
		}
		for _, g := range unlikeSigs(x.G) {
			wantRefused(t, fmt.Sprintf("%s, key %d, %d parts, %d steps", what, g.Key, len(g.L), len(g.Path)), api.ErrSig, c.a, api.Signed{S: x.S, G: g}, c.g, c.way)
		}
	}
}

// P19.2: chapter 9's error: of keys of another root, height or number of bits, and of such as there are none.
func TestTakeOtherKeys(t *testing.T) {
	l := logOf(8)
	x, ours := told(stateOf(l[:5])), ourKeys()
	for what, c := range claimsOf(l) {
		for _, k := range []api.Keys{
			{Seed: "Seed", Height: 2, Bits: 32}, {Seed: ours.Seed, Height: 1, Bits: 32}, {Seed: ours.Seed, Height: 3, Bits: 32},
			{Seed: ours.Seed, Height: 2, Bits: 31}, {Seed: ours.Seed, Height: 2, Bits: 33}, {Seed: ours.Seed, Height: 2, Bits: 128},
		} {
			a := c.a
			a.Keys, a.Height, a.Bits = fresh(k).Keys, k.Height, k.Bits
			wantRefused(t, fmt.Sprintf("%s, %+v", what, k), api.ErrSig, a, x, c.g, c.way)
			a = c.a
			a.Height, a.Bits = k.Height, k.Bits
			if k.Height != ours.Height || k.Bits != ours.Bits {
				wantRefused(t, fmt.Sprintf("%s, our root, %+v", what, k), api.ErrSig, a, x, c.g, c.way)
			}
		}
		for _, n := range append(farNumbers(), -1, 7, 257) {
			a := c.a
			if a.Height = n; n == 2 {
				continue
			}
			wantRefused(t, fmt.Sprintf("%s, height %d", what, n), api.ErrArg, a, x, c.g, c.way)
			a.Height, a.Bits = 2, n
			if n != 7 {
				wantRefused(t, fmt.Sprintf("%s, bits %d", what, n), api.ErrArg, a, x, c.g, c.way)
			}
		}
	}
}

// P19.2: ErrForm of a number that is not 0 to 4096, also where there is no state, where there is one of a greater number, and where it is that of the auditor.
func TestTakeForm(t *testing.T) {
	l := logOf(8)
	for _, n := range append(farNumbers(), -1, 4097, 4098, 65536) {
		x := told(with(stateOf(l[:5]), func(s *api.State) { s.N = n }))
		for what, c := range claimsOf(l) {
			wantRefused(t, fmt.Sprintf("%s, N %d", what, n), api.ErrForm, c.a, x, c.g, c.way)
		}
		wantRefused(t, fmt.Sprintf("its own state, N %d", n), api.ErrForm, knowing(x.S), x, api.Growth{}, nil)
		other := with(x.S, func(s *api.State) { s.Head = anyHash(1) })
		wantRefused(t, fmt.Sprintf("a fork, N %d", n), api.ErrForm, knowing(other), x, api.Growth{}, nil)
	}
}

// P19.2: ErrOld of a smaller number, also where both proofs are right for it, and all else is the same.
func TestTakeOld(t *testing.T) {
	for n := range 10 {
		l := logOf(n)
		a := knowing(stateOf(l))
		for m := range n {
			x := told(stateOf(l[:m]))
			what := fmt.Sprintf("%d behind %d", m, n)
			wantRefused(t, what, api.ErrOld, a, x, growthOf(l, m), wayOf(l, m))
			wantRefused(t, what+", its own proofs", api.ErrOld, a, x, growthOf(l[:m], m), nil)
			wantRefused(t, what+", no proofs", api.ErrOld, a, x, api.Growth{}, nil)
			like := told(with(a.S, func(s *api.State) { s.N = m }))
			wantRefused(t, what+", all else the same", api.ErrOld, a, like, growthOf(l, m), wayOf(l, m))
		}
	}
	for _, m := range []int{0, 1, 4095, 4096} {
		a := knowing(api.State{N: m + 1, Root: anyNode(1), Head: anyHash(1)})
		wantRefused(t, fmt.Sprintf("%d behind %d", m, m+1), api.ErrOld, a, told(api.State{N: m}), anyGrowth(), anyWay())
	}
}

// forksOf are states of a number that are unlike one in the root alone, in the head alone, in both.
func forksOf(s api.State) []api.State {
	out := []api.State{{N: s.N}, {N: s.N, Root: anyNode(1), Head: anyHash(2)}}
	for _, n := range changedNodes(s.Root) {
		out = append(out, with(s, func(s *api.State) { s.Root = n }))
	}
	for _, i := range []int{0, 16, 31} {
		out = append(out, with(s, func(s *api.State) { s.Head[i] ^= 1 }))
	}
	return append(out, with(s, func(s *api.State) { s.Head = s.Root.H }), with(s, func(s *api.State) { s.Root.H = s.Head }))
}

// P19.2: ErrFork of another state of the same number.
func TestTakeFork(t *testing.T) {
	for _, n := range []int{0, 1, 5, 4096} {
		l := logOf(n)
		s := stateOf(l)
		others := forksOf(s)
		if n > 0 {
			others = append(others, stateOf(otherLog(n, n-1)), stateOf(otherLog(n, 0)))
		}
		g := growthOf(l, n)
		for _, other := range others {
			what := fmt.Sprintf("%+v", other)
			wantRefused(t, what, api.ErrFork, knowing(s), told(other), g, nil)
			wantRefused(t, what+", the other way round", api.ErrFork, knowing(other), told(s), g, nil)
			wantRefused(t, what+", any proofs", api.ErrFork, knowing(s), told(other), anyGrowth(), anyWay())
		}
	}
}

// pairs are numbers of events, those of an auditor's state and those of the one that is told.
func pairs() [][2]int { return [][2]int{{0, 1}, {0, 5}, {1, 2}, {3, 5}, {4, 8}, {5, 8}, {7, 20}} }

// wrongGrowths are a growth with a node too few, too many, changed, and those of other numbers and of another log.
func wrongGrowths(l []api.Slot, m int) []api.Growth {
	g := growthOf(l, m)
	out := []api.Growth{{}, anyGrowth(), growthOf(otherLog(len(l), 0), m), {Old: g.New, New: g.Old}}
	for _, row := range slices.Concat(less(g.Old), more(g.Old, anyNode(1)), more(g.Old, api.Node{})) {
		out = append(out, api.Growth{Old: row, New: g.New})
	}
	for _, row := range slices.Concat(less(g.New), more(g.New, anyNode(1)), more(g.New, api.Node{})) {
		out = append(out, api.Growth{Old: g.Old, New: row})
	}
	for i := range g.Old {
		for _, n := range changedNodes(g.Old[i]) {
			out = append(out, api.Growth{Old: slices.Concat(g.Old[:i], []api.Node{n}, g.Old[i+1:]), New: g.New})
		}
	}
	for i := range g.New {
		for _, n := range changedNodes(g.New[i]) {
			out = append(out, api.Growth{Old: g.Old, New: slices.Concat(g.New[:i], []api.Node{n}, g.New[i+1:])})
		}
	}
	all := logOf(len(l) + 1)
	out = append(out, growthOf(all, m), growthOf(all, m+1), growthOf(l, m+1))
	if m > 0 {
		out = append(out, growthOf(l, m-1), growthOf(l[:len(l)-1], m-1))
	}
	return out
}

// P19.2: chapter 15's error: of a growth that isn't the one from the auditor's number to the state's, whether the way back is right or not.
func TestTakeWrongGrowth(t *testing.T) {
	for _, two := range pairs() {
		m, n := two[0], two[1]
		l := logOf(n)
		a, x := knowing(stateOf(l[:m])), told(stateOf(l))
		for i, g := range wrongGrowths(l, m) {
			for _, way := range [][]api.Hop{wayOf(l, m), nil, anyWay()} {
				wantRefused(t, fmt.Sprintf("from %d to %d, growth %d, %d hops", m, n, i, len(way)), api.ErrProof, a, x, g, way)
			}
		}
	}
}

// P19.2: chapter 15's error: of roots that aren't those of the growth.
func TestTakeWrongRoot(t *testing.T) {
	for _, two := range pairs() {
		m, n := two[0], two[1]
		l := logOf(n)
		old, now := stateOf(l[:m]), stateOf(l)
		x, g, way := told(now), growthOf(l, m), wayOf(l, m)
		for _, root := range changedNodes(now.Root) {
			other := with(now, func(s *api.State) { s.Root = root })
			wantRefused(t, fmt.Sprintf("from %d to %d, another root %+v", m, n, root), api.ErrProof, knowing(old), told(other), g, way)
		}
		for _, root := range changedNodes(old.Root) {
			other := with(old, func(s *api.State) { s.Root = root })
			wantRefused(t, fmt.Sprintf("from %d to %d, another old root %+v", m, n, root), api.ErrProof, knowing(other), x, g, way)
		}
	}
}

// P19.2: chapter 15's error of an auditor's number that may not be.
func TestTakeBelowNone(t *testing.T) {
	l := logOf(5)
	for _, m := range []int{-1, -2, math.MinInt, math.MinInt + 1} {
		for _, s := range []api.State{{N: m}, {N: m, Root: stateOf(nil).Root, Head: stateOf(nil).Head}} {
			wantRefused(t, fmt.Sprint("from ", m), api.ErrArg, knowing(s), told(stateOf(l)), growthOf(l, 0), wayOf(l, 0))
			wantRefused(t, fmt.Sprint("from ", m, ", to none"), api.ErrArg, knowing(s), told(stateOf(nil)), api.Growth{}, nil)
		}
	}
}

// wrongWays are a way with a hop too few, too many, changed, and those of other numbers and of another log.
func wrongWays(l []api.Slot, m int) [][]api.Hop {
	way := wayOf(l, m)
	out := slices.Concat(less(way), more(way, anyWay()[0]), more(way, api.Hop{}))
	out = append(out, nil, anyWay(), wayOf(otherLog(len(l), len(l)-1), m), slices.Concat(way, way))
	for i, h := range way {
		for _, other := range []api.Hop{{Leaf: anyHash(1), One: h.One, Far: h.Far}, {Leaf: h.Leaf, One: anyHash(1), Far: h.Far}, {Leaf: h.Leaf, One: h.One, Far: anyHash(1)}, {}} {
			out = append(out, slices.Concat(way[:i], []api.Hop{other}, way[i+1:]))
		}
	}
	if m > 0 {
		out = append(out, wayOf(l, m-1))
	}
	out = append(out, wayOf(l, m+1), wayOf(logOf(len(l)+1), m))
	// The way to the link ahead is the same, where its last step goes over that to the m-th one.
	return slices.DeleteFunc(out, func(other []api.Hop) bool { return slices.Equal(other, way) })
}

// P19.2: chapter 12's error: of a way that isn't the one from the state's head back to the auditor's number.
func TestTakeWrongWay(t *testing.T) {
	for _, two := range pairs() {
		m, n := two[0], two[1]
		l := logOf(n)
		a, x := knowing(stateOf(l[:m])), told(stateOf(l))
		for i, way := range wrongWays(l, m) {
			wantRefused(t, fmt.Sprintf("from %d to %d, way %d", m, n, i), api.ErrProof, a, x, growthOf(l, m), way)
		}
		for _, h := range []api.Hash{{}, anyHash(1), a.S.Head, x.S.Root.H} {
			other := told(with(x.S, func(s *api.State) { s.Head = h }))
			wantRefused(t, fmt.Sprintf("from %d to %d, another head", m, n), api.ErrProof, a, other, growthOf(l, m), wayOf(l, m))
		}
	}
}

// chained is the state of events whose chain begins at another link, and the way back to the m-th of its links.
func chained(l []api.Slot, first api.Hash, m int) (api.State, []api.Hop) {
	leaves, links := leavesOf(l), []api.Hash{first}
	for i := 1; i <= len(l); i++ {
		links = append(links, linkOf(i, hopOf(leaves, links, i)))
	}
	var way []api.Hop
	for p := len(l); p > m; {
		way = append(way, hopOf(leaves, links, p))
		if p-farOf(p) >= m {
			p -= farOf(p)
		} else {
			p--
		}
	}
	return api.State{N: len(l), Root: rootOf(leaves), Head: links[len(l)]}, way
}

// P19.2: ErrProof of a way back that is one, and leads to a link that isn't the head of the auditor's state.
func TestTakeOtherHead(t *testing.T) {
	for _, two := range pairs() {
		m, n := two[0], two[1]
		l := logOf(n)
		old := stateOf(l[:m])
		for _, i := range []int{0, 9, 31} {
			other := with(old, func(s *api.State) { s.Head[i] ^= 4 })
			wantRefused(t, fmt.Sprintf("from %d to %d, another old head", m, n), api.ErrProof, knowing(other), told(stateOf(l)), growthOf(l, m), wayOf(l, m))
		}
		s, way := chained(l, anyHash(1), m)
		wantRefused(t, fmt.Sprintf("from %d to %d, another chain", m, n), api.ErrProof, knowing(old), told(s), growthOf(l, m), way)
		before, _ := chained(l[:m], anyHash(1), m)
		wantTaken(t, fmt.Sprintf("from %d to %d within it", m, n), knowing(before), told(s), growthOf(l, m), way)
		s, way = chained(l, hashOf(4), m)
		wantTaken(t, fmt.Sprintf("from %d to %d", m, n), knowing(old), told(s), growthOf(l, m), way)
	}
}

// P19.2: nothing is written into, neither into proofs and signatures nor behind them.
func TestTakeLeavesAll(t *testing.T) {
	l := logOf(20)
	x, g, way := told(stateOf(l)), growthOf(l, 7), wayOf(l, 7)
	var same [5]func() bool
	x.G.L, same[0] = behind(x.G.L, anyHash(1))
	x.G.Path, same[1] = behind(x.G.Path, anyHash(2))
	g.Old, same[2] = behind(g.Old, anyNode(1))
	g.New, same[3] = behind(g.New, anyNode(2))
	way, same[4] = behind(way, anyWay()[0])
	y := told(stateOf(otherLog(20, 3)))
	for _, a := range []api.Auditor{fresh(ourKeys()), knowing(stateOf(l[:7])), knowing(stateOf(l[:6])), knowing(x.S), {}} {
		audit.Take(a, x, g, way)
		audit.Fork(a, x, y)
		audit.Fork(a, y, x)
	}
	got, e := audit.Take(knowing(stateOf(l[:7])), x, g, way)
	for i, is := range same {
		if !is() {
			t.Errorf("list %d was written into", i)
		}
	}
	want := knowing(x.S)
	spoil(x.G.L)
	spoil(x.G.Path)
	spoil(g.Old)
	spoil(g.New)
	spoil(way)
	if e != api.OK || got != want {
		t.Errorf("%+v, %d", got, e)
	}
}

// P19.2: two states of one number, both signed, that are unlike, in whichever order, to an auditor with any state or none.
func TestFork(t *testing.T) {
	s := stateOf(logOf(5))
	x := told(s)
	for _, other := range append(forksOf(s), stateOf(otherLog(5, 4))) {
		for _, y := range []api.Signed{signedBy(ourKeys(), 2, other), told(other)} {
			for _, a := range []api.Auditor{fresh(ourKeys()), knowing(s), knowing(other), knowing(stateOf(logOf(8))), knowing(api.State{N: -1})} {
				if !audit.Fork(a, x, y) || !audit.Fork(a, y, x) {
					t.Errorf("%+v, to one with %+v", other, a.S)
				}
			}
		}
	}
	for _, n := range append(farNumbers(), -1, 0, 4096, 4097) {
		x, y := told(api.State{N: n}), told(api.State{N: n, Head: anyHash(1)})
		if !audit.Fork(fresh(ourKeys()), x, y) {
			t.Errorf("N %d", n)
		}
	}
}

// P19.2: it is no fork, if one isn't signed, or both, if the numbers are unlike, or the states the same.
func TestNoFork(t *testing.T) {
	s, other := stateOf(logOf(5)), stateOf(otherLog(5, 4))
	x, y := told(s), told(other)
	refuse := func(what string, a api.Auditor, x, y api.Signed) {
		t.Helper()
		if audit.Fork(a, x, y) || audit.Fork(a, y, x) {
			t.Error(what)
		}
	}
	for _, a := range []api.Auditor{fresh(ourKeys()), knowing(s), knowing(other)} {
		for i, g := range unlikeSigs(y.G) {
			refuse(fmt.Sprint("one isn't signed, ", i), a, x, api.Signed{S: other, G: g})
			refuse(fmt.Sprint("both aren't, ", i), a, api.Signed{S: s, G: g}, api.Signed{S: other, G: g})
		}
		refuse("exchanged", a, api.Signed{S: s, G: y.G}, api.Signed{S: other, G: x.G})
		refuse("the other one's", a, x, api.Signed{S: other, G: x.G})
		refuse("the same one", a, x, x)
		refuse("the same one by two keys", a, x, signedBy(ourKeys(), 2, s))
		for _, n := range []int{-1, 0, 4, 6, 4096, 4097, math.MinInt, math.MaxInt} {
			refuse(fmt.Sprint("N ", n), a, x, told(with(other, func(s *api.State) { s.N = n })))
			refuse(fmt.Sprint("all else the same, N ", n), a, x, told(with(s, func(s *api.State) { s.N = n })))
		}
		for _, n := range []int{-1, 7, 1, 3, math.MinInt, math.MaxInt} {
			one := a
			one.Height = n
			refuse(fmt.Sprint("height ", n), one, x, y)
			one.Height, one.Bits = 2, n
			refuse(fmt.Sprint("bits ", n), one, x, y)
		}
		a.Keys[3] ^= 1
		refuse("another root", a, x, y)
	}
}
