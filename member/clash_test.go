package member

import (
	"bytes"
	"encoding/binary"
	"math"
	"math/rand"
	"slices"
	"testing"

	"tabulary/api"
	"tabulary/brief"
	"tabulary/tree"
)

// blind is a node of the same hash above all.
func blind(a, b api.Node) api.Node { return api.Node{H: api.Hash{1: 1}, B: brief.Join(a.B, b.B)} }

// nought is a node whose hash is all 0, as that of no node is.
func nought(a, b api.Node) api.Node { return api.Node{B: brief.Join(a.B, b.B)} }

// few is a node above two whose hash has two bits, so that unlike ones often meet.
func few(a, b api.Node) api.Node {
	n := uint32(1)
	for _, c := range []byte(tree.Text(a) + tree.Text(b)) {
		n = (n ^ uint32(c)) * 0x01000193
	}
	n ^= n >> 15
	return api.Node{H: api.Hash{7: byte(n>>9) & 3}, B: brief.Join(a.B, b.B)}
}

// leftless is a node above two whose hash does not hang on the left one; rightless, hashless and briefless do not on the right one, on the hashes, on the briefs.
func leftless(a, b api.Node) api.Node {
	return api.Node{H: tree.Join(api.Node{}, b).H, B: brief.Join(a.B, b.B)}
}

func rightless(a, b api.Node) api.Node {
	return api.Node{H: tree.Join(a, api.Node{}).H, B: brief.Join(a.B, b.B)}
}

func hashless(a, b api.Node) api.Node { return tree.Join(api.Node{B: a.B}, api.Node{B: b.B}) }

func briefless(a, b api.Node) api.Node {
	return api.Node{H: tree.Join(api.Node{H: a.H}, api.Node{H: b.H}).H, B: brief.Join(a.B, b.B)}
}

// told is the text of the node above two, laid by hand.
func told(a, b api.Node) string {
	var out bytes.Buffer
	out.WriteString("\x03\x00\x00\x00\x02")
	for _, n := range []api.Node{a, b} {
		out.WriteString("\x00\x00\x00\x00\x00\x00\x00\x41")
		if err := binary.Write(&out, binary.BigEndian, n); err != nil {
			panic(err)
		}
	}
	return out.String()
}

// teller is chapter 13's Clash under a hash of its own.
func teller(join joining) telling {
	return func(a, b, c, d api.Node) ([]string, bool) {
		if one, two := told(a, b), told(c, d); one != two && join(a, b).H == join(c, d).H {
			return []string{one, two}, true
		}
		return nil, false
	}
}

// half is the half of n, found by doubling.
func half(n int) int {
	out := 1
	for 2*out < n {
		out *= 2
	}
	return out
}

// stepsOf is how many nodes stand above a leaf.
func stepsOf(i, n int) int {
	switch {
	case n < 2:
		return 0
	case i < half(n):
		return 1 + stepsOf(i, half(n))
	}
	return 1 + stepsOf(i-half(n), n-half(n))
}

// topOf is what a leaf leads to by a path as long as it has to be, and the children of each node above it, from the root on.
func topOf(leaf api.Node, i, n int, path []api.Node, join joining) (api.Node, [][2]api.Node) {
	if n == 1 {
		return leaf, nil
	}
	last := len(path) - 1
	var two [2]api.Node
	var below [][2]api.Node
	if i < half(n) {
		two[1] = path[last]
		two[0], below = topOf(leaf, i, half(n), path[:last], join)
	} else {
		two[0] = path[last]
		two[1], below = topOf(leaf, i-half(n), n-half(n), path[:last], join)
	}
	return join(two[0], two[1]), append([][2]api.Node{two}, below...)
}

// A pair are two leaves of one place, and their paths.
type pair struct {
	i, n        int
	leaf, other api.Node
	path, way   []api.Node
}

// exchanged is the pair with the other one first.
func (p pair) exchanged() pair { return pair{p.i, p.n, p.other, p.leaf, p.way, p.path} }

// clashOf is what clash has to answer, where Climb of both is OK.
func clashOf(p pair, join joining) []string {
	one, a := topOf(p.leaf, p.i, p.n, p.path, join)
	two, b := topOf(p.other, p.i, p.n, p.way, join)
	if one.H != two.H {
		return nil
	}
	for k := range a {
		if x, y := told(a[k][0], a[k][1]), told(b[k][0], b[k][1]); x != y {
			return []string{x, y}
		}
	}
	return nil
}

// want fails the test, unless clash answers just that, and the two texts the other way round of the pair exchanged.
func want(t *testing.T, l []string, p pair, join joining) {
	t.Helper()
	path, way := slices.Clone(p.path), slices.Clone(p.way)
	got, is := clash(p.i, p.n, p.leaf, p.path, p.other, p.way, join, teller(join))
	if !slices.Equal(got, l) || is != (l != nil) {
		t.Errorf("%d of %d: %q, %v; not %q", p.i, p.n, got, is, l)
	}
	x := p.exchanged()
	got, is = clash(x.i, x.n, x.leaf, x.path, x.other, x.way, join, teller(join))
	slices.Reverse(got)
	if !slices.Equal(got, l) || is != (l != nil) {
		t.Errorf("%d of %d, exchanged: %q, %v; not %q", p.i, p.n, got, is, l)
	}
	if !slices.Equal(path, p.path) || !slices.Equal(way, p.way) {
		t.Errorf("%d of %d: a path is changed", p.i, p.n)
	}
}

// wantNone fails the test, unless Clash, and clash under that hash, answer none and false.
func wantNone(t *testing.T, p pair, join joining) {
	t.Helper()
	want(t, nil, p, join)
	for _, x := range []pair{p, p.exchanged()} {
		if l, is := Clash(x.i, x.n, x.leaf, x.path, x.other, x.way); len(l) != 0 || is {
			t.Errorf("%d of %d: %q, %v", x.i, x.n, l, is)
		}
	}
}

// wantTwins fails the test, unless these are unlike texts of two nodes of one hash.
func wantTwins(t *testing.T, l []string, join joining) {
	t.Helper()
	var h []api.Hash
	for _, text := range l {
		if len(text) != 5+2*(8+65) {
			t.Fatalf("%q: %d bytes", text, len(text))
		}
		var two [2]api.Node
		for k := range two {
			at := 5 + 8 + k*(8+65)
			if err := binary.Read(bytes.NewReader([]byte(text[at:at+65])), binary.BigEndian, &two[k]); err != nil {
				t.Fatal(err)
			}
		}
		if told(two[0], two[1]) != text {
			t.Fatalf("%q is no node's text", text)
		}
		h = append(h, join(two[0], two[1]).H)
	}
	if len(l) != 2 || l[0] == l[1] || h[0] != h[1] {
		t.Errorf("%q: %x", l, h)
	}
}

// nodeOf is a node whose hash is a number; all have one brief.
func nodeOf(number byte) api.Node {
	return api.Node{H: api.Hash{3: number}, B: api.Brief{First: 1, Last: 1, Grave: 1, From: 1, Many: 1}}
}

// anyOf is a node of so many hashes and briefs.
func anyOf(r *rand.Rand, many int) api.Node {
	return api.Node{H: api.Hash{7: byte(r.Intn(many))}, B: api.Brief{First: int64(r.Intn(2)), Many: uint64(r.Intn(2))}}
}

// rowOf are so many nodes of so many hashes and briefs.
func rowOf(r *rand.Rand, length, many int) []api.Node {
	out := make([]api.Node, length)
	for i := range out {
		out[i] = anyOf(r, many)
	}
	return out
}

// P14.3: clash by hand, of one step: leaf or step is unlike, on the left side and on the right one.
func TestClashOfOneStep(t *testing.T) {
	a, b, c := nodeOf(1), nodeOf(2), nodeOf(3)
	for _, x := range []struct {
		i, n        int
		left, right joining // which don't hang on the leaf, on the step
	}{{0, 2, leftless, rightless}, {1, 2, rightless, leftless}, {2, 3, rightless, leftless}, {2048, 2049, rightless, leftless}} {
		text := func(leaf, step api.Node) string {
			if x.i == 0 {
				return told(leaf, step)
			}
			return told(step, leaf)
		}
		other := pair{x.i, x.n, a, c, []api.Node{b}, []api.Node{b}}
		step := pair{x.i, x.n, a, a, []api.Node{b}, []api.Node{c}}
		both := pair{x.i, x.n, a, b, []api.Node{b}, []api.Node{a}}
		want(t, []string{text(a, b), text(c, b)}, other, x.left)
		want(t, []string{text(a, b), text(c, b)}, other, blind)
		want(t, []string{text(a, b), text(a, c)}, step, x.right)
		want(t, []string{text(a, b), text(a, c)}, step, blind)
		want(t, []string{text(a, b), text(b, a)}, both, hashless)
		wantNone(t, other, x.right)
		wantNone(t, step, x.left)
		wantNone(t, both, tree.Join)
	}
}

// P14.3: of all nodes with unlike children the highest one is told, and no lower one.
func TestClashOfTheHighest(t *testing.T) {
	a, b, c, d, x, y := nodeOf(1), nodeOf(2), nodeOf(3), nodeOf(4), nodeOf(5), nodeOf(6)
	ab := blind(a, b)
	// All nodes above two are the same one, so that none is unlike for what stands below it.
	flat := func(p, q api.Node) api.Node { return ab }
	path := []api.Node{b, c, d}
	// The third of five: b is on its right side, c on its left one, d on its right one.
	for _, w := range []struct {
		other api.Node
		way   []api.Node
		texts []string
	}{
		{x, path, []string{told(a, b), told(x, b)}},
		{a, []api.Node{x, c, d}, []string{told(a, b), told(a, x)}},
		{x, []api.Node{y, c, d}, []string{told(a, b), told(x, y)}},
		{a, []api.Node{b, x, d}, []string{told(c, ab), told(x, ab)}},
		{x, []api.Node{y, x, d}, []string{told(c, ab), told(x, ab)}},
		{a, []api.Node{b, c, x}, []string{told(ab, d), told(ab, x)}},
		{a, []api.Node{b, x, y}, []string{told(ab, d), told(ab, y)}},
		{x, []api.Node{b, c, y}, []string{told(ab, d), told(ab, y)}},
		{b, []api.Node{d, c, a}, []string{told(ab, d), told(ab, a)}},
		{a, path, nil},
	} {
		want(t, w.texts, pair{2, 5, a, w.other, path, w.way}, flat)
	}
}

// P14.3: a node is unlike, too, where what is told of it is, though its hash is the same.
func TestClashOfUnlikeBriefs(t *testing.T) {
	a, b, c, d := nodeOf(1), nodeOf(2), nodeOf(3), nodeOf(4)
	path := []api.Node{b, c, d}
	for _, change := range []func(b *api.Brief){
		func(b *api.Brief) { b.First = -1 }, func(b *api.Brief) { b.Last = 2 }, func(b *api.Brief) { b.Grave = 3 }, func(b *api.Brief) { b.From = 3 }, func(b *api.Brief) { b.Many = 2 }, func(b *api.Brief) { b.Keep = true },
	} {
		other := a
		change(&other.B)
		// The brief goes up to the root's children, so that these are unlike, and the root's hash isn't.
		p := pair{0, 5, a, other, path, path}
		at, to := blind(blind(a, b), c), blind(blind(other, b), c)
		if at.H != to.H || at.B == to.B {
			t.Fatalf("%+v and %+v", at, to)
		}
		want(t, []string{told(at, d), told(to, d)}, p, blind)
		// Of the root alone: its hash counts, what is told of it doesn't.
		one := pair{0, 2, a, other, []api.Node{b}, []api.Node{b}}
		want(t, []string{told(a, b), told(other, b)}, one, blind)
		want(t, []string{told(a, b), told(other, b)}, one, briefless)
		wantNone(t, one, tree.Join)
	}
}

// P14.3: clash of any leaves and paths, at all places of small trees, under hashes that hang on part of them.
func TestClashOfAny(t *testing.T) {
	r := rand.New(rand.NewSource(21))
	for k, join := range []joining{tree.Join, blind, nought, few, leftless, rightless, hashless, briefless} {
		met := 0
		for range 3000 {
			n := 1 + r.Intn(20)
			i := r.Intn(n)
			p := pair{i: i, n: n, leaf: anyOf(r, 2), path: rowOf(r, stepsOf(i, n), 2)}
			p.other, p.way = p.leaf, slices.Clone(p.path)
			for range r.Intn(3) {
				if at := r.Intn(len(p.way) + 1); at == len(p.way) {
					p.other = anyOf(r, 2)
				} else {
					p.way[at] = anyOf(r, 2)
				}
			}
			texts := clashOf(p, join)
			want(t, texts, p, join)
			if texts != nil {
				met++
				wantTwins(t, texts, join)
			}
		}
		if weak := k > 0; weak != (met > 100) || !weak && met > 0 {
			t.Errorf("hash %d: met %d times", k, met)
		}
	}
}

// P14.3: what is told is what chapter 13's Clash tells, asked once, for the children of the highest node.
func TestClashAsksOnce(t *testing.T) {
	a, b, c, x := nodeOf(1), nodeOf(2), nodeOf(3), nodeOf(4)
	var asked [][4]api.Node
	spy := func(a, b, c, d api.Node) ([]string, bool) {
		asked = append(asked, [4]api.Node{a, b, c, d})
		return []string{"one", "two"}, true
	}
	l, is := clash(0, 4, a, []api.Node{b, c}, x, []api.Node{b, x}, blind, spy)
	top := blind(a, b)
	if !is || !slices.Equal(l, []string{"one", "two"}) || len(asked) != 1 || asked[0] != [4]api.Node{top, c, blind(x, b), x} {
		t.Errorf("%q, %v: %+v", l, is, asked)
	}
	// Not asked at all: of what is the same, of roots of unlike hashes, where Climb isn't OK.
	for _, p := range []struct {
		other api.Node
		way   []api.Node
		join  joining
	}{{a, []api.Node{b, c}, blind}, {x, []api.Node{b, c}, tree.Join}, {a, []api.Node{b, x}, tree.Join}, {x, []api.Node{b}, nought}, {x, []api.Node{b, c, c}, nought}} {
		asked = nil
		if l, is := clash(0, 4, a, []api.Node{b, c}, p.other, p.way, p.join, spy); l != nil || is || asked != nil {
			t.Errorf("%q, %v: %+v", l, is, asked)
		}
	}
}

// P14.3: none and false, where leaves and paths are the same, or lead to unlike hashes.
func TestClashOfNone(t *testing.T) {
	r := rand.New(rand.NewSource(22))
	for n := 1; n < 40; n++ {
		for i := range n {
			p := pair{i: i, n: n, leaf: anyOf(r, 99), path: rowOf(r, stepsOf(i, n), 99)}
			p.other, p.way = p.leaf, slices.Clone(p.path)
			for _, join := range []joining{blind, few, tree.Join} {
				wantNone(t, p, join)
			}
			p.other.H[0] ^= 1
			wantNone(t, p, tree.Join)
			p.other = p.leaf
			for k := range p.way {
				p.way[k].B.Many++
				wantNone(t, p, tree.Join)
			}
			p.other.B.Keep = true
			wantNone(t, p, tree.Join)
		}
	}
}

// P14.3: in a tree of one there is no node that has children: none and false, whatever the leaves.
func TestClashOfOneLeaf(t *testing.T) {
	a, b, c := nodeOf(1), nodeOf(2), nodeOf(1)
	c.B.Many = 9
	for _, p := range []pair{{0, 1, a, a, nil, nil}, {0, 1, a, b, nil, nil}, {0, 1, a, c, nil, nil}, {0, 1, a, c, []api.Node{}, nil}, {0, 1, a, c, []api.Node{b}, nil}, {0, 1, a, c, []api.Node{b}, []api.Node{a}}} {
		for _, join := range []joining{blind, few, hashless, tree.Join} {
			wantNone(t, p, join)
		}
	}
}

// P14.3: none and false, where Climb of one isn't OK, or of both.
func TestClashOfWrongPaths(t *testing.T) {
	r := rand.New(rand.NewSource(23))
	for _, n := range []int{1, 2, 3, 4, 5, 7, 8, 9, 33, 2049, 4095, 4096} {
		for _, i := range []int{0, n / 2, n - 1} {
			right := stepsOf(i, n)
			steps := rowOf(r, right+4, 99)
			for many := range steps {
				if many == right {
					continue
				}
				a, b := nodeOf(1), nodeOf(2)
				wantNone(t, pair{i, n, a, b, steps[:right], steps[:many]}, blind)
				wantNone(t, pair{i, n, a, a, steps[:right], steps[:many]}, blind)
				wantNone(t, pair{i, n, a, b, steps[:right], steps[:many]}, nought)
				wantNone(t, pair{i, n, a, b, steps[:many], steps[:many]}, blind)
				wantNone(t, pair{i, n, a, b, steps[1 : many+1], steps[:many]}, nought)
			}
		}
	}
}

// P14.3: none and false, of a place or a number of leaves that may not be.
func TestClashOfWrongPlaces(t *testing.T) {
	r := rand.New(rand.NewSource(24))
	steps := rowOf(r, 15, 99)
	for _, x := range [][2]int{
		{-1, 1}, {-1, 5}, {1, 1}, {5, 5}, {6, 5}, {0, 0}, {-1, 0}, {0, -1}, {-2, -1}, {4096, 4096}, {0, 4097}, {4096, 4097}, {0, 8192}, {0, 1<<32 + 2},
		{math.MinInt, 5}, {math.MaxInt, 5}, {0, math.MinInt}, {0, math.MaxInt}, {math.MaxInt - 1, math.MaxInt}, {math.MinInt, math.MinInt},
	} {
		for many := range steps {
			wantNone(t, pair{x[0], x[1], nodeOf(1), nodeOf(2), steps[:many], steps[:many]}, blind)
			wantNone(t, pair{x[0], x[1], nodeOf(1), nodeOf(1), steps[:many], steps[1 : many+1]}, blind)
		}
	}
}

// P14.3: clash of twelve steps, of which each one alone is unlike.
func TestClashOfTwelve(t *testing.T) {
	r := rand.New(rand.NewSource(25))
	flat := func(a, b api.Node) api.Node { return nodeOf(99) }
	for _, i := range []int{0, 4095, 1365, 2730, 2048} {
		p := pair{i: i, n: 4096, leaf: nodeOf(1), other: nodeOf(1), path: rowOf(r, 12, 2)}
		for k := range p.path {
			p.way = slices.Clone(p.path)
			p.way[k] = nodeOf(7)
			at := p.leaf
			if k > 0 {
				at = nodeOf(99)
			}
			texts := []string{told(at, p.path[k]), told(at, p.way[k])}
			if i>>k&1 == 1 {
				texts = []string{told(p.path[k], at), told(p.way[k], at)}
			}
			want(t, texts, p, flat)
			// What is unlike below doesn't count.
			for j := range k {
				p.way[j] = nodeOf(8)
				want(t, texts, p, flat)
			}
			if k > 0 {
				p.other = nodeOf(9)
				want(t, texts, p, flat)
				p.other = p.leaf
			}
		}
	}
}

// P14.4: two leaves that lead to one root, at one place, are the same, with the same paths, or two texts are told that have one hash.
func TestLeavesOfOneRoot(t *testing.T) {
	r := rand.New(rand.NewSource(26))
	met, same := 0, 0
	for range 20000 {
		n := 2 + r.Intn(12)
		i := r.Intn(n)
		p := pair{i: i, n: n, leaf: anyOf(r, 3), path: rowOf(r, stepsOf(i, n), 3)}
		p.other, p.way = p.leaf, slices.Clone(p.path)
		if r.Intn(4) > 0 {
			p.other.H[1] ^= byte(r.Intn(3))
			p.way[r.Intn(len(p.way))].H[2] ^= byte(r.Intn(2))
		}
		one, _, e := climb(p.leaf, i, n, p.path, few)
		two, _, f := climb(p.other, i, n, p.way, few)
		if e != api.OK || f != api.OK {
			t.Fatalf("%d of %d: %d, %d", i, n, e, f)
		}
		if one != two {
			continue
		}
		texts, is := clash(i, n, p.leaf, p.path, p.other, p.way, few, teller(few))
		switch alike := p.leaf == p.other && slices.Equal(p.path, p.way); {
		case is && !alike:
			met++
			wantTwins(t, texts, few)
		case !is && alike && len(texts) == 0:
			same++
		default:
			t.Errorf("%d of %d, alike: %v; %q, %v", i, n, alike, texts, is)
		}
	}
	if met < 1000 || same < 1000 {
		t.Errorf("met %d times alone, %d times the same", met, same)
	}
}
