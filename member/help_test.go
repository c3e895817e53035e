package member_test

import (
	"bytes"
	"crypto/sha256"
	"encoding/binary"
	"math"
	"math/rand"
	"slices"
	"testing"

	"tabulary/api"
	"tabulary/brief"
	"tabulary/member"
	"tabulary/tree"
)

// joinOf is the node above two, by the library's hash.
func joinOf(a, b api.Node) api.Node {
	var text bytes.Buffer
	text.WriteString("\x03\x00\x00\x00\x02")
	for _, n := range []api.Node{a, b} {
		text.WriteString("\x00\x00\x00\x00\x00\x00\x00\x41")
		if err := binary.Write(&text, binary.BigEndian, n); err != nil {
			panic(err)
		}
	}
	return api.Node{H: sha256.Sum256(text.Bytes()), B: brief.Join(a.B, b.B)}
}

// halfOf is the half of n, found by doubling.
func halfOf(n int) int {
	half := 1
	for 2*half < n {
		half *= 2
	}
	return half
}

// rootOf is the root of one leaf or more.
func rootOf(l []api.Node) api.Node {
	if len(l) == 1 {
		return l[0]
	}
	half := halfOf(len(l))
	return joinOf(rootOf(l[:half]), rootOf(l[half:]))
}

// A beside is what stands beside a leaf at a node above it: whether on the left side, and which leaves are there.
type beside struct {
	left     bool
	from, to int
}

// besideOf is all that stands beside a leaf, from the highest node on.
func besideOf(i, n int) []beside {
	var out []beside
	for from, to := 0, n; to-from > 1; {
		middle := from + halfOf(to-from)
		if i < middle {
			out, to = append(out, beside{false, middle, to}), middle
		} else {
			out, from = append(out, beside{true, from, middle}), middle
		}
	}
	return out
}

// pathOf is a leaf's path.
func pathOf(l []api.Node, i int) []api.Node {
	var path []api.Node
	for _, b := range slices.Backward(besideOf(i, len(l))) {
		path = append(path, rootOf(l[b.from:b.to]))
	}
	return path
}

// topOf is what a leaf leads to, by a path as long as it has to be.
func topOf(leaf api.Node, i, n int, path []api.Node) api.Node {
	at := leaf
	for k, b := range slices.Backward(besideOf(i, n)) {
		if step := path[len(path)-1-k]; b.left {
			at = joinOf(step, at)
		} else {
			at = joinOf(at, step)
		}
	}
	return at
}

// anyHash is any hash.
func anyHash(r *rand.Rand) (h api.Hash) {
	r.Read(h[:])
	return h
}

// rightBrief is any right brief, of one event or more.
func rightBrief(r *rand.Rand) api.Brief {
	first := r.Int63n(1 << 60)
	return api.Brief{First: first, Last: first + r.Int63n(1<<60), Grave: 1 + r.Uint32()%255, From: 1 + r.Uint32()%(1<<24-1), Many: 1 + uint64(r.Uint32()), Keep: r.Intn(2) == 0}
}

// wrongBriefs are briefs that aren't right, and the one of none.
func wrongBriefs() []api.Brief {
	return []api.Brief{
		{}, {Keep: true}, {First: 1}, {Last: -1}, {Grave: 1}, {From: 1}, {Many: 1}, {First: 7, Last: 6, Grave: 1, From: 1, Many: 1},
		{First: math.MaxInt64, Last: math.MinInt64, Grave: 256, From: 1 << 24, Many: 3}, {Grave: 1, From: 1, Many: 1 << 63}, {Grave: 2, From: 2, Many: 1 << 63, Keep: true},
		{First: math.MinInt64, Last: math.MaxInt64, Grave: math.MaxUint32, From: math.MaxUint32, Many: math.MaxUint64, Keep: true},
	}
}

// anyNode is any node, whose brief is right, or not now and then.
func anyNode(r *rand.Rand) api.Node {
	b := rightBrief(r)
	if wrong := wrongBriefs(); r.Intn(4) == 0 {
		b = wrong[r.Intn(len(wrong))]
	}
	return api.Node{H: anyHash(r), B: b}
}

// anyRow are so many nodes, any ones.
func anyRow(r *rand.Rand, many int) []api.Node {
	row := make([]api.Node, many)
	for i := range row {
		row[i] = anyNode(r)
	}
	return row
}

// leavesOf are leaves of so many events, with what is told of each.
func leavesOf(r *rand.Rand, many int) []api.Node {
	l := make([]api.Node, many)
	for i := range l {
		e := api.Event{Grave: r.Intn(8), From: r.Intn(24), At: int64(r.Uint64())}
		l[i] = tree.Leaf(string([]byte{byte(i >> 8), byte(i)}), brief.Of(e, r.Intn(5) == 0))
	}
	return l
}

// changes are a node changed in its hash and in each number of its brief, one of them at a time.
func changes(n api.Node) []api.Node {
	var out []api.Node
	for _, change := range []func(n *api.Node){
		func(n *api.Node) { n.H[0] ^= 0x80 }, func(n *api.Node) { n.H[15] ^= 8 }, func(n *api.Node) { n.H[31] ^= 1 },
		func(n *api.Node) { n.B.First-- }, func(n *api.Node) { n.B.First ^= -1 << 63 }, func(n *api.Node) { n.B.Last++ }, func(n *api.Node) { n.B.Last ^= -1 << 63 },
		func(n *api.Node) { n.B.Grave ^= 1 }, func(n *api.Node) { n.B.Grave ^= 1 << 31 }, func(n *api.Node) { n.B.From ^= 1 }, func(n *api.Node) { n.B.From ^= 1 << 31 },
		func(n *api.Node) { n.B.Many++ }, func(n *api.Node) { n.B.Many ^= 1 << 63 }, func(n *api.Node) { n.B.Keep = !n.B.Keep },
	} {
		other := n
		change(&other)
		out = append(out, other)
	}
	return out
}

// small are numbers of leaves of which all places are gone through.
func small() []int {
	var out []int
	for n := 1; n <= 70; n++ {
		out = append(out, n)
	}
	return out
}

// great are numbers of leaves, up to as many as a log has, of which some places are gone through.
func great() []int { return []int{127, 128, 129, 1023, 1024, 1025, 2047, 2049, 4095, 4096} }

// somePlaces are the first, the last, middle places of n and those beside its half, rising.
func somePlaces(n int) []int {
	var out []int
	half := halfOf(n)
	for _, i := range []int{0, 1, half / 2, half - 1, half, half + 1, n / 2, n / 3, n - 2, n - 1} {
		if 0 <= i && i < n {
			out = append(out, i)
		}
	}
	slices.Sort(out)
	return slices.Compact(out)
}

// placesOf are all places of a small n, some of a great one.
func placesOf(n int) []int {
	if n > 70 {
		return somePlaces(n)
	}
	var out []int
	for i := range n {
		out = append(out, i)
	}
	return out
}

// wrongPlaces are places and numbers of leaves that may not be.
func wrongPlaces() [][2]int {
	return [][2]int{
		{-1, 1}, {-1, 5}, {-2, 8}, {-1, 4096}, {math.MinInt, 5}, {math.MinInt, 4096}, {math.MinInt + 1, 1},
		{1, 1}, {2, 2}, {5, 5}, {8, 8}, {4095, 4095}, {4096, 4096}, {2, 1}, {6, 5}, {9, 8}, {4097, 4096}, {1 << 32, 4096}, {math.MaxInt, 1}, {math.MaxInt, 4096},
		{0, 0}, {1, 0}, {-1, 0}, {math.MaxInt, 0}, {math.MinInt, 0},
		{0, -1}, {-1, -1}, {-2, -1}, {0, -5}, {-3, -5}, {1, -1}, {0, math.MinInt}, {math.MinInt, math.MinInt}, {math.MinInt, math.MinInt + 1}, {math.MaxInt, math.MinInt},
		{0, 4097}, {1, 4097}, {4095, 4097}, {4096, 4097}, {4097, 4097}, {0, 8192}, {8191, 8192}, {0, 1 << 32}, {0, 1<<32 + 5}, {1 << 32, 1<<32 + 5},
		{0, math.MaxInt}, {math.MaxInt - 1, math.MaxInt}, {math.MaxInt, math.MaxInt}, {-1, math.MaxInt}, {math.MinInt, math.MaxInt},
	}
}

// wantPath fails the test, unless Path answers just this.
func wantPath(t *testing.T, l []api.Node, i int, want []api.Node) {
	t.Helper()
	if got, e := member.Path(l, i); e != api.OK || !slices.Equal(got, want) {
		t.Errorf("Path of %d of %d: %d steps, %d; not %d, or other ones", i, len(l), len(got), e, len(want))
	}
}

// wantTop fails the test, unless a leaf leads to just this, and Check takes this alone.
func wantTop(t *testing.T, leaf api.Node, i, n int, path []api.Node, want api.Node) {
	t.Helper()
	if got, e := member.Climb(leaf, i, n, path); e != api.OK || got != want {
		t.Errorf("Climb from %d of %d: %+v, %d; not %+v", i, n, got, e, want)
	}
	if e := member.Check(want, leaf, i, n, path); e != api.OK {
		t.Errorf("Check of %d of %d: %d", i, n, e)
	}
	for _, root := range changes(want) {
		if e := member.Check(root, leaf, i, n, path); e != api.ErrProof {
			t.Errorf("Check of %d of %d, of another root, %+v: %d", i, n, root, e)
		}
	}
}

// wantNoTop fails the test, unless Climb and Check answer just this error, whatever the root.
func wantNoTop(t *testing.T, want api.Errno, leaf api.Node, i, n int, path []api.Node) {
	t.Helper()
	if got, e := member.Climb(leaf, i, n, path); e != want || got != (api.Node{}) {
		t.Errorf("Climb from %d of %d, %d steps: %+v, %d", i, n, len(path), got, e)
	}
	for _, root := range []api.Node{leaf, {}, tree.None()} {
		if e := member.Check(root, leaf, i, n, path); e != want {
			t.Errorf("Check of %d of %d, %d steps: %d", i, n, len(path), e)
		}
	}
}
