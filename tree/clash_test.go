package tree

import (
	"bytes"
	"encoding/binary"
	"math"
	"math/rand"
	"slices"
	"testing"

	"tabulary/api"
	"tabulary/brief"
	"tabulary/tag"
)

// blind is a node of the same hash above all.
func blind(a, b api.Node) api.Node { return api.Node{H: api.Hash{1: 1}, B: brief.Join(a.B, b.B)} }

// few is a node above two whose hash has two bits, so that unlike ones often meet.
func few(a, b api.Node) api.Node {
	n := uint32(1)
	for _, c := range []byte(Text(a) + Text(b)) {
		n = (n ^ uint32(c)) * 0x01000193
	}
	n ^= n >> 15
	return api.Node{H: api.Hash{7: byte(n>>9) & 3}, B: brief.Join(a.B, b.B)}
}

// leftless is a node above two whose hash does not hang on the left one; rightless, hashless and briefless do not on the right one, on the hashes, on the briefs.
func leftless(a, b api.Node) api.Node  { return Join(api.Node{}, b) }
func rightless(a, b api.Node) api.Node { return Join(a, api.Node{}) }
func hashless(a, b api.Node) api.Node  { return Join(api.Node{B: a.B}, api.Node{B: b.B}) }
func briefless(a, b api.Node) api.Node { return Join(api.Node{H: a.H}, api.Node{H: b.H}) }

// told is the text of the node above two, laid by hand.
func told(a, b api.Node) string {
	var out bytes.Buffer
	out.WriteString("\x03\x00\x00\x00\x02")
	for _, n := range []api.Node{a, b} {
		out.WriteString("\x00\x00\x00\x00\x00\x00\x00\x41")
		if err := binary.Write(&out, binary.BigEndian, n); err != nil {
			panic(err)
		}
	}
	return out.String()
}

// clashOf is what clash has to answer.
func clashOf(a, b, c, d api.Node, join joining) []string {
	one, two := told(a, b), told(c, d)
	if one == two || join(a, b).H != join(c, d).H {
		return nil
	}
	return []string{one, two}
}

// want fails the test, unless clash answers just that.
func want(t *testing.T, l []string, a, b, c, d api.Node, join joining) {
	t.Helper()
	if got, is := clash(a, b, c, d, join); !slices.Equal(got, l) || is != (l != nil) {
		t.Errorf("%+v, %+v and %+v, %+v: %q, %v; not %q", a, b, c, d, got, is, l)
	}
}

// wantNone fails the test, unless Clash answers none and false, whichever two are the first.
func wantNone(t *testing.T, a, b, c, d api.Node) {
	t.Helper()
	for _, x := range [][4]api.Node{{a, b, c, d}, {c, d, a, b}} {
		if l, is := Clash(x[0], x[1], x[2], x[3]); len(l) != 0 || is {
			t.Errorf("%+v: %q, %v", x, l, is)
		}
	}
}

// some are nodes of each kind: with unlike hashes, with each number of a brief changed, with briefs that aren't right.
func some() []api.Node {
	b := api.Brief{First: 1, Last: 2, Grave: 3, From: 4, Many: 5}
	out := []api.Node{{}, None(), {H: api.Hash{0: 1}}, {H: api.Hash{31: 1}}, {H: api.Hash{0: 1}, B: b}, {B: b}}
	for _, change := range []func(b *api.Brief){
		func(b *api.Brief) { b.First = -1 }, func(b *api.Brief) { b.Last = 3 }, func(b *api.Brief) { b.Grave = 1 << 31 }, func(b *api.Brief) { b.From = 1 << 31 },
		func(b *api.Brief) { b.Many = math.MaxUint64 }, func(b *api.Brief) { b.Many = 0 }, func(b *api.Brief) { b.Keep = true }, func(b *api.Brief) { b.First, b.Last = b.Last, b.First },
	} {
		other := b
		change(&other)
		out = append(out, api.Node{B: other})
	}
	return out
}

// P13.3: clash of all pairs of some nodes, under hashes that hang on part of them.
func TestClashOfSome(t *testing.T) {
	l := some()
	for _, join := range []joining{blind, leftless, rightless, hashless, briefless, few} {
		met := 0
		for i, a := range l {
			for k, b := range l {
				for _, c := range []api.Node{a, b, l[(i+1)%len(l)], l[(i+5)%len(l)]} {
					for _, d := range []api.Node{a, b, l[(k+1)%len(l)], l[(k+7)%len(l)]} {
						texts := clashOf(a, b, c, d, join)
						want(t, texts, a, b, c, d, join)
						if texts != nil {
							met++
						}
					}
				}
			}
		}
		if met < 100 {
			t.Errorf("met %d times alone", met)
		}
	}
}

// P13.3: clash by hand: both sides are held against each other, each alone, and the first two's text is told first.
func TestClashByHand(t *testing.T) {
	a, b := api.Node{H: api.Hash{0: 1}}, api.Node{H: api.Hash{0: 2}}
	c, d := api.Node{H: api.Hash{0: 3}}, api.Node{H: api.Hash{0: 1}, B: api.Brief{Keep: true}}
	want(t, []string{told(a, b), told(c, b)}, a, b, c, b, leftless)
	want(t, []string{told(c, b), told(a, b)}, c, b, a, b, leftless)
	want(t, []string{told(b, a), told(b, c)}, b, a, b, c, rightless)
	want(t, []string{told(b, c), told(b, a)}, b, c, b, a, rightless)
	want(t, []string{told(a, b), told(d, b)}, a, b, d, b, briefless)
	want(t, []string{told(b, a), told(b, d)}, b, a, b, d, briefless)
	want(t, []string{told(a, b), told(b, a)}, a, b, b, a, blind)
	want(t, []string{told(a, b), told(c, d)}, a, b, c, d, blind)
	want(t, nil, a, b, a, b, blind)
	want(t, nil, a, a, a, a, blind)
	want(t, nil, a, b, a, c, leftless)
	want(t, nil, a, b, c, b, rightless)
	want(t, nil, a, b, a, c, briefless)
	want(t, nil, a, b, a, d, hashless)
	want(t, nil, a, b, b, a, Join)
}

// P13.3: no two texts are told where only what is told of the nodes is the same, or unlike: their hashes count.
func TestClashHoldsHashes(t *testing.T) {
	b := api.Brief{First: 1, Last: 1, Grave: 1, From: 1, Many: 1}
	x, y := api.Node{H: api.Hash{0: 1}, B: b}, api.Node{H: api.Hash{0: 2}, B: b}
	if Join(x, y).B != Join(y, x).B {
		t.Fatal("the briefs are unlike")
	}
	want(t, nil, x, y, y, x, Join)
	other := api.Node{H: x.H, B: api.Brief{First: 1, Last: 9, Grave: 1, From: 1, Many: 7}}
	if blind(x, y).B == blind(other, y).B {
		t.Fatal("the briefs are the same")
	}
	want(t, []string{told(x, y), told(other, y)}, x, y, other, y, blind)
}

// P13.3: Clash with the hash as it is: nobody knows two texts that have one.
func TestClashOfNone(t *testing.T) {
	l := some()
	for i, a := range l {
		for k, b := range l {
			wantNone(t, a, b, a, b)
			wantNone(t, a, b, b, a)
			wantNone(t, a, b, l[(i+3)%len(l)], b)
			wantNone(t, a, b, a, l[(k+3)%len(l)])
			wantNone(t, a, b, l[(i+2)%len(l)], l[(k+5)%len(l)])
			wantNone(t, a, b, Join(a, b), None())
		}
	}
}

// P13.3: what Clash tells are the texts that chapter 3 hashes for Join.
func TestTextsOfJoin(t *testing.T) {
	for _, a := range some() {
		for _, b := range some() {
			kind, parts, e := tag.Parts(text(a, b))
			if kind != api.KNode || len(parts) != 2 || e != api.OK || text(a, b) != told(a, b) {
				t.Fatalf("%q: %d, %q, %d", text(a, b), kind, parts, e)
			}
			if sum, e := tag.Hash(kind, parts); e != api.OK || sum != Join(a, b).H {
				t.Errorf("%+v, %+v: %x", a, b, sum)
			}
		}
	}
}

// anyTree is the root of one leaf or more under a hash of its own.
func anyTree(l []api.Node, join joining) api.Node {
	if len(l) == 1 {
		return l[0]
	}
	half := Half(len(l))
	return join(anyTree(l[:half], join), anyTree(l[half:], join))
}

// unlike are the two texts of the first two nodes of one hash that have unlike children, from the roots of two rows on that are as long.
func unlike(t *testing.T, x, y []api.Node, join joining) []string {
	t.Helper()
	if len(x) == 1 {
		return nil
	}
	half := Half(len(x))
	a, b := anyTree(x[:half], join), anyTree(x[half:], join)
	c, d := anyTree(y[:half], join), anyTree(y[half:], join)
	texts := clashOf(a, b, c, d, join)
	want(t, texts, a, b, c, d, join)
	if texts != nil {
		return texts
	}
	if texts = unlike(t, x[:half], y[:half], join); texts != nil {
		return texts
	}
	return unlike(t, x[half:], y[half:], join)
}

// P13.4: roots whose hashes are the same have the same children, all the way down, or two texts are told that have one hash.
func TestRootsOfOneHash(t *testing.T) {
	r := rand.New(rand.NewSource(31))
	met, same := 0, 0
	for range 20000 {
		x, y := make([]api.Node, 2+r.Intn(12)), []api.Node(nil)
		for i := range x {
			x[i] = api.Node{H: api.Hash{byte(r.Intn(3))}, B: api.Brief{First: int64(r.Intn(2)), Many: uint64(r.Intn(2))}}
		}
		y = slices.Clone(x)
		if r.Intn(4) > 0 {
			y[r.Intn(len(y))].H[1] ^= byte(1 + r.Intn(3))
			y[r.Intn(len(y))].H[0] ^= byte(r.Intn(2))
		}
		if anyTree(x, few).H != anyTree(y, few).H {
			continue
		}
		switch texts := unlike(t, x, y, few); {
		case texts != nil:
			met++
			if texts[0] == texts[1] {
				t.Errorf("the same: %q", texts)
			}
		case slices.Equal(x, y):
			same++
		default:
			t.Errorf("%+v and %+v are unlike, and no two texts are told", x, y)
		}
	}
	if met < 1000 || same < 1000 {
		t.Errorf("met %d times alone, %d times the same", met, same)
	}
}
