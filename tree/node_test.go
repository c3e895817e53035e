package tree_test

import (
	"math"
	"math/rand"
	"slices"
	"strings"
	"testing"

	"tabulary/api"
	"tabulary/tree"
)

// P13.1: a node's text, of briefs of each kind.
func TestText(t *testing.T) {
	r := rand.New(rand.NewSource(1))
	for _, b := range briefs(r) {
		for _, h := range []api.Hash{{}, {0: 1}, {31: 0xff}, anyHash(r)} {
			n := api.Node{H: h, B: b}
			if got := tree.Text(n); len(got) != 65 || got != textOf(n) {
				t.Errorf("%+v: %x", n, got)
			}
		}
	}
}

// P13.1: a node's text by hand, byte by byte.
func TestTextByHand(t *testing.T) {
	n := api.Node{H: api.Hash{0: 'f', 31: 'l'}, B: api.Brief{First: -2, Last: 0x0102030405060708, Grave: 0x90, From: 0xabcdef, Many: 258, Keep: true}}
	want := "f" + strings.Repeat("\x00", 30) + "l" +
		"\xff\xff\xff\xff\xff\xff\xff\xfe" + "\x01\x02\x03\x04\x05\x06\x07\x08" +
		"\x00\x00\x00\x90" + "\x00\xab\xcd\xef" + "\x00\x00\x00\x00\x00\x00\x01\x02" + "\x01"
	if got := tree.Text(n); got != want {
		t.Errorf("%x, not %x", got, want)
	}
	if got := tree.Text(api.Node{}); got != strings.Repeat("\x00", 65) {
		t.Errorf("of zeroes: %x", got)
	}
}

// P13.1: Gone and Leaf, of texts and briefs of each kind: a leaf has its brief, and is that of its text's hash.
func TestLeaf(t *testing.T) {
	r := rand.New(rand.NewSource(2))
	texts := []string{"", "a", "ab", "\x00", "\xff\xfe", "<34>1 - h a - - - hi", strings.Repeat("x", 65536), strings.Repeat("y", 65537)}
	for _, b := range briefs(r) {
		for _, s := range texts {
			h := hashOf(1, s)
			want := api.Node{H: hashOf(2, string(h[:]), briefText(b)), B: b}
			if got := tree.Leaf(s, b); got != want {
				t.Errorf("Leaf of %d bytes, %+v: %x, %+v", len(s), b, got.H, got.B)
			}
			if got := tree.Gone(h, b); got != want {
				t.Errorf("Gone of %d bytes, %+v: %x, %+v", len(s), b, got.H, got.B)
			}
		}
		for _, h := range []api.Hash{{}, anyHash(r)} {
			if got := tree.Gone(h, b); got != (api.Node{H: hashOf(2, string(h[:]), briefText(b)), B: b}) {
				t.Errorf("Gone of %x, %+v: %x, %+v", h, b, got.H, got.B)
			}
		}
	}
}

// P13.1: Join, of briefs of each kind, of none beside such of some too: the hash hangs on both hashes and both briefs.
func TestJoin(t *testing.T) {
	r := rand.New(rand.NewSource(3))
	var l []api.Node
	for _, b := range briefs(r) {
		l = append(l, api.Node{H: anyHash(r), B: b}, api.Node{B: b})
	}
	l = append(l, noneOf())
	for _, a := range l {
		for _, b := range l {
			if got := tree.Join(a, b); got != joinOf(a, b) {
				t.Errorf("%+v, %+v: %+v", a, b, got)
			}
		}
	}
}

// P13.1: Join by hand: what is told of none is what is told of the other one, though the hash hangs on it.
func TestJoinOfNone(t *testing.T) {
	b := api.Brief{First: 3, Last: 9, Grave: 2, From: 4, Many: 2, Keep: true}
	x, none := api.Node{H: api.Hash{0: 1}, B: b}, tree.None()
	left, right, both := tree.Join(none, x), tree.Join(x, none), tree.Join(none, none)
	if left.B != b || right.B != b || both.B != (api.Brief{}) {
		t.Errorf("%+v, %+v, %+v", left.B, right.B, both.B)
	}
	if left.H == right.H || left.H == x.H || right.H == x.H || both.H == none.H {
		t.Errorf("%x, %x, %x", left.H, right.H, both.H)
	}
	y := api.Node{H: api.Hash{0: 2}, B: api.Brief{First: 1, Last: 4, Grave: 8, From: 4, Many: 5}}
	if got := tree.Join(x, y).B; got != (api.Brief{First: 1, Last: 9, Grave: 10, From: 4, Many: 7, Keep: true}) {
		t.Errorf("%+v", got)
	}
}

// P13.1: no two unlike nodes, and no two unlike sides, have one node above them.
func TestJoinsToldApart(t *testing.T) {
	r := rand.New(rand.NewSource(4))
	var l []api.Node
	for _, b := range briefs(r)[:6] {
		l = append(l, api.Node{B: b}, api.Node{H: api.Hash{0: 1}, B: b})
	}
	l = append(l, tree.None(), tree.Leaf("", api.Brief{}), tree.Gone(api.Hash{}, api.Brief{}))
	seen := map[api.Hash]bool{tree.None().H: true}
	for _, a := range l {
		for _, b := range l {
			if h := tree.Join(a, b).H; seen[h] {
				t.Errorf("%+v, %+v: a hash that there was", a, b)
			} else {
				seen[h] = true
			}
		}
	}
}

// P13.1: None.
func TestNone(t *testing.T) {
	if got := tree.None(); got != noneOf() {
		t.Errorf("%+v", got)
	}
}

// P13.1: Half by hand, and next to each power of two.
func TestHalf(t *testing.T) {
	for _, x := range []struct{ n, want int }{
		{2, 1}, {3, 2}, {4, 2}, {5, 4}, {6, 4}, {7, 4}, {8, 4}, {9, 8}, {4095, 2048}, {4096, 2048}, {4097, 4096}, {math.MaxInt, 1 << 62}, {math.MaxInt - 1, 1 << 62},
		{1, 0}, {0, 0}, {-1, 0}, {-2, 0}, {-3, 0}, {-4096, 0}, {-1 << 62, 0}, {math.MinInt + 1, 0}, {math.MinInt, 0},
	} {
		if got := tree.Half(x.n); got != x.want {
			t.Errorf("%d: %d, not %d", x.n, got, x.want)
		}
	}
	for bit := 2; bit <= 62; bit++ {
		power := 1 << bit
		if got := tree.Half(power - 1); got != power/2 {
			t.Errorf("one below %d: %d", power, got)
		}
		if got := tree.Half(power); got != power/2 {
			t.Errorf("%d: %d", power, got)
		}
		if got := tree.Half(power + 1); got != power {
			t.Errorf("one above %d: %d", power, got)
		}
	}
}

// P13.1: Half of many: a power of two below it, twice which isn't.
func TestHalfOfMany(t *testing.T) {
	for n := 2; n < 9000; n++ {
		half := 1
		for 2*half < n {
			half *= 2
		}
		if got := tree.Half(n); got != half {
			t.Errorf("%d: %d, not %d", n, got, half)
		}
	}
}

// P13.1: Root, of none, of one, of two, of three, by hand.
func TestRootByHand(t *testing.T) {
	l := anyRow(rand.New(rand.NewSource(5)), 7)
	two, four := joinOf(l[0], l[1]), joinOf(joinOf(l[0], l[1]), joinOf(l[2], l[3]))
	for n, want := range []api.Node{
		noneOf(), l[0], two, joinOf(two, l[2]), four, joinOf(four, l[4]), joinOf(four, joinOf(l[4], l[5])), joinOf(four, joinOf(joinOf(l[4], l[5]), l[6])),
	} {
		if got := tree.Root(l[:n]); got != want {
			t.Errorf("of %d: %+v, not %+v", n, got, want)
		}
	}
	if tree.Root(nil) != noneOf() {
		t.Error("of none")
	}
}

// P13.1: Root, of many, more than 4096 too, writes into no list.
func TestRoot(t *testing.T) {
	r := rand.New(rand.NewSource(6))
	l := anyRow(r, 5000)
	kept := slices.Clone(l)
	for _, many := range []int{8, 9, 15, 16, 17, 31, 33, 63, 64, 65, 100, 1000, 1023, 1024, 1025, 4095, 4096, 4097, 5000} {
		if got := tree.Root(l[:many]); got != rootOf(l[:many]) {
			t.Errorf("of %d: %+v", many, got)
		}
	}
	if !slices.Equal(l, kept) {
		t.Error("the leaves are changed")
	}
}

// P13.1: Root, of nodes whose briefs aren't right, and of such that are none of leaves.
func TestRootOfWrongBriefs(t *testing.T) {
	r := rand.New(rand.NewSource(7))
	var l []api.Node
	for range 6 {
		for _, b := range briefs(r) {
			l = append(l, api.Node{H: anyHash(r), B: b})
		}
		r.Shuffle(len(l), func(i, k int) { l[i], l[k] = l[k], l[i] })
		for many := range len(l) {
			if got := tree.Root(l[:many]); got != rootOf(l[:many]) {
				t.Fatalf("of %d: %+v", many, got)
			}
		}
	}
}

// P13.1: the root hangs on each leaf, and on where it stands.
func TestRootHangsOnEach(t *testing.T) {
	r := rand.New(rand.NewSource(8))
	for _, many := range []int{1, 2, 3, 5, 8, 13} {
		l := anyRow(r, many)
		seen := map[api.Hash]bool{tree.Root(l).H: true}
		add := func(what string, l []api.Node) {
			t.Helper()
			if h := tree.Root(l).H; seen[h] {
				t.Errorf("of %d, %s: a root that there was", many, what)
			} else {
				seen[h] = true
			}
		}
		for i := range l {
			other := slices.Clone(l)
			other[i] = anyNode(r)
			add("another leaf", other)
			add("one less", slices.Delete(slices.Clone(l), i, i+1))
			add("one more", slices.Insert(slices.Clone(l), i, anyNode(r)))
			for k := range i {
				swapped := slices.Clone(l)
				swapped[i], swapped[k] = l[k], l[i]
				add("exchanged", swapped)
			}
		}
	}
}
