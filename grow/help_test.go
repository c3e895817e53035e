package grow_test

import (
	"bytes"
	"crypto/sha256"
	"encoding/binary"
	"math"
	"math/rand"
	"slices"
	"testing"

	"tabulary/api"
	"tabulary/brief"
	"tabulary/grow"
	"tabulary/tree"
)

// joinOf is the node above two, by the library's hash.
func joinOf(a, b api.Node) api.Node {
	var text bytes.Buffer
	text.WriteString("\x03\x00\x00\x00\x02")
	for _, n := range []api.Node{a, b} {
		text.WriteString("\x00\x00\x00\x00\x00\x00\x00\x41")
		if err := binary.Write(&text, binary.BigEndian, n); err != nil {
			panic(err)
		}
	}
	return api.Node{H: sha256.Sum256(text.Bytes()), B: brief.Join(a.B, b.B)}
}

// noneOf is the node of none.
func noneOf() api.Node { return api.Node{H: sha256.Sum256([]byte{3, 0, 0, 0, 0})} }

// halfOf is the half of n, found by doubling.
func halfOf(n int) int {
	half := 1
	for 2*half < n {
		half *= 2
	}
	return half
}

// A known is a node that stands above so many leaves, from a place on.
type known struct{ at, size int }

// rootAbove is the root of the leaves from a place on, each of which stands below a node that is known.
func rootAbove(at, size int, nodes map[known]api.Node) api.Node {
	if size == 0 {
		return noneOf()
	}
	if n, is := nodes[known{at, size}]; is {
		return n
	}
	half := halfOf(size)
	return joinOf(rootAbove(at, half, nodes), rootAbove(at+half, size-half, nodes))
}

// rootOf is the root of leaves.
func rootOf(l []api.Node) api.Node {
	nodes := map[known]api.Node{}
	for i, leaf := range l {
		nodes[known{i, 1}] = leaf
	}
	return rootAbove(0, len(l), nodes)
}

// sizesOf are the powers of two whose sum m is, bit by bit.
func sizesOf(m int) []int {
	var sizes []int
	for bit := 12; bit >= 0; bit-- {
		if m>>bit&1 == 1 {
			sizes = append(sizes, 1<<bit)
		}
	}
	return sizes
}

// coverOf is the cover of m to n: at each place the powers of two are tried, from the greatest one on.
func coverOf(m, n int) []int {
	var sizes []int
	for at := m; at < n; {
		size := 4096
		for at%size != 0 || at+size > n {
			size /= 2
		}
		sizes, at = append(sizes, size), at+size
	}
	return sizes
}

// proofOf is the proof that a tree of the first m leaves is the beginning of that of all.
func proofOf(l []api.Node, m int) api.Growth {
	var g api.Growth
	at := 0
	for _, size := range sizesOf(m) {
		g.Old = append(g.Old, rootOf(l[at:at+size]))
		at += size
	}
	for _, size := range coverOf(m, len(l)) {
		g.New = append(g.New, rootOf(l[at:at+size]))
		at += size
	}
	return g
}

// rootsOf are the old root and the new one that a proof of as many nodes as it needs tells.
func rootsOf(m, n int, g api.Growth) (api.Node, api.Node) {
	nodes := map[known]api.Node{}
	at := 0
	for k, size := range slices.Concat(sizesOf(m), coverOf(m, n)) {
		nodes[known{at, size}] = slices.Concat(g.Old, g.New)[k]
		at += size
	}
	return rootAbove(0, m, nodes), rootAbove(0, n, nodes)
}

// peakOf tells in which peak of m leaves the i-th one is: which peak, at which place it begins, and how many leaves it has.
func peakOf(i, m int) (k, at, size int) {
	for k, size = range sizesOf(m) {
		if i < at+size {
			return k, at, size
		}
		at += size
	}
	panic("no such leaf")
}

// pathIn is the path of a leaf of a full tree, row by row.
func pathIn(l []api.Node, i int) []api.Node {
	var path []api.Node
	for row := l; len(row) > 1; i /= 2 {
		path = append(path, row[i^1])
		var up []api.Node
		for k := 0; k < len(row); k += 2 {
			up = append(up, joinOf(row[k], row[k+1]))
		}
		row = up
	}
	return path
}

// topIn is what a leaf of a full tree leads to.
func topIn(leaf api.Node, i int, path []api.Node) api.Node {
	for k, step := range path {
		if i>>k&1 == 0 {
			leaf = joinOf(leaf, step)
		} else {
			leaf = joinOf(step, leaf)
		}
	}
	return leaf
}

// anyHash is any hash.
func anyHash(r *rand.Rand) (h api.Hash) {
	r.Read(h[:])
	return h
}

// wrongBriefs are briefs that aren't right, and the one of none.
func wrongBriefs() []api.Brief {
	return []api.Brief{
		{}, {Keep: true}, {First: 1}, {Last: -1}, {Grave: 1}, {From: 1}, {Many: 1}, {First: 7, Last: 6, Grave: 1, From: 1, Many: 1},
		{First: math.MaxInt64, Last: math.MinInt64, Grave: 256, From: 1 << 24, Many: 3}, {Grave: 2, From: 2, Many: 1 << 63, Keep: true},
		{First: math.MinInt64, Last: math.MaxInt64, Grave: math.MaxUint32, From: math.MaxUint32, Many: math.MaxUint64, Keep: true},
	}
}

// anyNode is any node, whose brief is right, or not now and then.
func anyNode(r *rand.Rand) api.Node {
	first := r.Int63n(1 << 60)
	b := api.Brief{First: first, Last: first + r.Int63n(1<<60), Grave: 1 + r.Uint32()%255, From: 1 + r.Uint32()%(1<<24-1), Many: 1 + uint64(r.Uint32()), Keep: r.Intn(2) == 0}
	if wrong := wrongBriefs(); r.Intn(4) == 0 {
		b = wrong[r.Intn(len(wrong))]
	}
	return api.Node{H: anyHash(r), B: b}
}

// anyRow are so many nodes, any ones.
func anyRow(r *rand.Rand, many int) []api.Node {
	row := make([]api.Node, many)
	for i := range row {
		row[i] = anyNode(r)
	}
	return row
}

// anyProof is a proof of as many nodes as m and n need, any ones.
func anyProof(r *rand.Rand, m, n int) api.Growth {
	return api.Growth{Old: anyRow(r, len(sizesOf(m))), New: anyRow(r, len(coverOf(m, n)))}
}

// leavesOf are leaves of so many events, with what is told of each.
func leavesOf(r *rand.Rand, many int) []api.Node {
	l := make([]api.Node, many)
	for i := range l {
		e := api.Event{Grave: r.Intn(8), From: r.Intn(24), At: int64(r.Uint64())}
		l[i] = tree.Leaf(string([]byte{byte(i >> 8), byte(i)}), brief.Of(e, r.Intn(5) == 0))
	}
	return l
}

// changes are a node changed in its hash and in each number of its brief, one of them at a time.
func changes(n api.Node) []api.Node {
	var out []api.Node
	for _, change := range []func(n *api.Node){
		func(n *api.Node) { n.H[0] ^= 0x80 }, func(n *api.Node) { n.H[15] ^= 8 }, func(n *api.Node) { n.H[31] ^= 1 },
		func(n *api.Node) { n.B.First-- }, func(n *api.Node) { n.B.First ^= -1 << 63 }, func(n *api.Node) { n.B.Last++ }, func(n *api.Node) { n.B.Last ^= -1 << 63 },
		func(n *api.Node) { n.B.Grave ^= 1 }, func(n *api.Node) { n.B.Grave ^= 1 << 31 }, func(n *api.Node) { n.B.From ^= 1 }, func(n *api.Node) { n.B.From ^= 1 << 31 },
		func(n *api.Node) { n.B.Many++ }, func(n *api.Node) { n.B.Many ^= 1 << 63 }, func(n *api.Node) { n.B.Keep = !n.B.Keep },
	} {
		other := n
		change(&other)
		out = append(out, other)
	}
	return out
}

// copyOf is a proof that shares nothing with another.
func copyOf(g api.Growth) api.Growth {
	return api.Growth{Old: slices.Clone(g.Old), New: slices.Clone(g.New)}
}

// isSame: are two proofs the same, node by node?
func isSame(a, b api.Growth) bool {
	return slices.Equal(a.Old, b.Old) && slices.Equal(a.New, b.New)
}

// changed are proofs of as many nodes in each row, one node of which is changed in its hash or in a number of its brief.
func changed(g api.Growth) []api.Growth {
	var out []api.Growth
	for k, n := range g.Old {
		for _, other := range append(changes(n), api.Node{}) {
			one := copyOf(g)
			one.Old[k] = other
			out = append(out, one)
		}
	}
	for k, n := range g.New {
		for _, other := range append(changes(n), api.Node{}) {
			one := copyOf(g)
			one.New[k] = other
			out = append(out, one)
		}
	}
	return out
}

// exchanged are proofs with two unlike nodes exchanged, also one of Old with one of New.
func exchanged(g api.Growth) []api.Growth {
	var out []api.Growth
	many := len(g.Old)
	all := slices.Concat(g.Old, g.New)
	for k := range all {
		for j := range k {
			if all[j] == all[k] {
				continue
			}
			row := slices.Clone(all)
			row[j], row[k] = row[k], row[j]
			out = append(out, api.Growth{Old: row[:many:many], New: row[many:]})
		}
	}
	return out
}

// miscounted are proofs with a node too few or too many in a row, or one that is put from one into the other.
func miscounted(g api.Growth, more api.Node) []api.Growth {
	old, new := len(g.Old), len(g.New)
	out := []api.Growth{
		{Old: append(slices.Clone(g.Old), more), New: g.New}, {Old: g.Old, New: append(slices.Clone(g.New), more)},
		{Old: append([]api.Node{more}, g.Old...), New: g.New}, {Old: g.Old, New: append([]api.Node{more}, g.New...)},
		{Old: append(slices.Clone(g.Old), more, more), New: append(slices.Clone(g.New), more)},
	}
	if old > 0 {
		out = append(out, api.Growth{Old: g.Old[1:], New: g.New}, api.Growth{Old: g.Old[:old-1], New: g.New}, api.Growth{New: g.New},
			api.Growth{Old: g.Old[:old-1], New: append([]api.Node{g.Old[old-1]}, g.New...)}, api.Growth{Old: g.Old[1:], New: append(slices.Clone(g.New), g.Old[0])},
			api.Growth{New: slices.Concat(g.Old, g.New)})
	}
	if new > 0 {
		out = append(out, api.Growth{Old: g.Old, New: g.New[1:]}, api.Growth{Old: g.Old, New: g.New[:new-1]}, api.Growth{Old: g.Old},
			api.Growth{Old: append(slices.Clone(g.Old), g.New[0]), New: g.New[1:]}, api.Growth{Old: append(slices.Clone(g.Old), g.New[new-1]), New: g.New[:new-1]},
			api.Growth{Old: slices.Concat(g.Old, g.New)})
	}
	return out
}

// small are all m and n up to some n.
func small(most int) [][2]int {
	var out [][2]int
	for n := range most + 1 {
		for m := range n + 1 {
			out = append(out, [2]int{m, n})
		}
	}
	return out
}

// great are m and n of many leaves, up to as many as a log has.
func great() [][2]int {
	var out [][2]int
	edges := []int{127, 128, 129, 1023, 1025, 2047, 2048, 2049, 3000, 4095, 4096}
	for _, n := range edges {
		for _, m := range append([]int{0, 1, 2, 3, 6, n / 2, n / 3, n - 2, n - 1}, edges...) {
			if m <= n {
				out = append(out, [2]int{m, n})
			}
		}
	}
	return out
}

// few are some of the great ones, where going through them all takes long.
func few() [][2]int {
	return [][2]int{{0, 4096}, {1, 4095}, {6, 4096}, {127, 129}, {128, 129}, {2048, 4096}, {2047, 2049}, {3000, 4095}, {4095, 4096}, {4096, 4096}}
}

// wrongPairs are m and n that may not be.
func wrongPairs() [][2]int {
	return [][2]int{
		{-1, 0}, {-1, 1}, {-1, 11}, {-2, 8}, {-6, 11}, {-1, 4096}, {math.MinInt, 0}, {math.MinInt, 11}, {math.MinInt + 1, 1}, {math.MinInt, 4096},
		{1, 0}, {2, 1}, {12, 11}, {9, 8}, {16, 8}, {4096, 4095}, {4097, 4096}, {8192, 4096}, {1 << 32, 11}, {1<<32 + 6, 11}, {math.MaxInt, 0}, {math.MaxInt, 11}, {math.MaxInt, 4096},
		{0, -1}, {-1, -1}, {-2, -1}, {0, -11}, {-6, -11}, {-11, -6}, {0, math.MinInt}, {math.MinInt, math.MinInt}, {math.MinInt, math.MinInt + 1}, {math.MaxInt, math.MinInt}, {1, math.MinInt},
		{0, 4097}, {1, 4097}, {4095, 4097}, {4096, 4097}, {4097, 4097}, {4098, 4097}, {-1, 4097}, {0, 8192}, {4096, 8192}, {8192, 8192}, {6, 1<<32 + 11}, {1<<32 + 6, 1<<32 + 11},
		{0, math.MaxInt}, {1, math.MaxInt}, {math.MaxInt - 1, math.MaxInt}, {math.MaxInt, math.MaxInt}, {-1, math.MaxInt}, {math.MinInt, math.MaxInt}, {1 << 62, math.MaxInt},
	}
}

// wantRoots fails the test, unless a proof tells just these roots, and Check takes them alone.
func wantRoots(t *testing.T, m, n int, g api.Growth, old, new api.Node) {
	t.Helper()
	if a, b, e := grow.Roots(m, n, g); e != api.OK || a != old || b != new {
		t.Errorf("Roots of %d to %d: %+v, %+v, %d; not %+v, %+v", m, n, a, b, e, old, new)
	}
	if e := grow.Check(old, m, new, n, g); e != api.OK {
		t.Errorf("Check of %d to %d: %d", m, n, e)
	}
}

// wantNoRoots fails the test, unless Roots, Check and Leaf answer just this error, whatever the roots and the leaf.
func wantNoRoots(t *testing.T, want api.Errno, m, n int, g api.Growth) {
	t.Helper()
	if a, b, e := grow.Roots(m, n, g); e != want || a != (api.Node{}) || b != (api.Node{}) {
		t.Errorf("Roots of %d to %d, %d and %d nodes: %+v, %+v, %d", m, n, len(g.Old), len(g.New), a, b, e)
	}
	for _, root := range []api.Node{{}, tree.None()} {
		if e := grow.Check(root, m, root, n, g); e != want {
			t.Errorf("Check of %d to %d, %d and %d nodes: %d", m, n, len(g.Old), len(g.New), e)
		}
	}
	for _, i := range []int{0, -1, m - 1, m, n, math.MinInt, math.MaxInt} {
		for _, leaf := range append(slices.Clone(g.Old), api.Node{}) {
			if top, e := grow.Leaf(m, n, i, g, leaf, nil); e != want || top != (api.Node{}) {
				t.Errorf("Leaf %d of %d to %d, %d and %d nodes: %+v, %d", i, m, n, len(g.Old), len(g.New), top, e)
			}
		}
	}
}

// wantUnproved fails the test, unless Check answers ErrProof.
func wantUnproved(t *testing.T, what string, old api.Node, m int, new api.Node, n int, g api.Growth) {
	t.Helper()
	if e := grow.Check(old, m, new, n, g); e != api.ErrProof {
		t.Errorf("%s, of %d to %d: %d", what, m, n, e)
	}
}
