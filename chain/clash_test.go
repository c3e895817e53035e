package chain

import (
	"encoding/binary"
	"math/rand"
	"slices"
	"testing"

	"tabulary/api"
	"tabulary/tag"
)

// blind is the same link of all.
func blind(int, api.Hop) api.Hash { return api.Hash{1: 1} }

// few is a link of two bits, so that two ways often meet.
func few(i int, h api.Hop) api.Hash {
	n := uint32(i)
	for _, part := range []api.Hash{h.Leaf, h.One, h.Far} {
		n = (n ^ uint32(part[7])) * 0x9e3779b1
		n ^= n >> 15
	}
	return api.Hash{7: byte(n>>9) & 3}
}

// leafless is a link that does not hang on the leaf; oneless and farless do not on the other two.
func leafless(i int, h api.Hop) api.Hash { h.Leaf = api.Hash{}; return Link(i, h) }
func oneless(i int, h api.Hop) api.Hash  { h.One = api.Hash{}; return Link(i, h) }
func farless(i int, h api.Hop) api.Hash  { h.Far = api.Hash{}; return Link(i, h) }

// told is the text of a hop, laid by hand.
func told(i int, h api.Hop) string {
	text := "\x04\x00\x00\x00\x04\x00\x00\x00\x00\x00\x00\x00\x08" + string(binary.BigEndian.AppendUint64(nil, uint64(i)))
	for _, part := range []api.Hash{h.Leaf, h.One, h.Far} {
		text += "\x00\x00\x00\x00\x00\x00\x00\x20" + string(part[:])
	}
	return text
}

// A step is a place that a step back goes from, and whether it goes to the far one.
type step struct {
	place int
	far   bool
}

// stepsOf are the steps back, each found by going through all powers of two.
func stepsOf(to, from int) []step {
	if to == from {
		return nil
	}
	long := 1
	for power := 1; power <= to; power *= 2 {
		if to%power == 0 {
			long = power
		}
	}
	if to-long >= from {
		return append([]step{{to, true}}, stepsOf(to-long, from)...)
	}
	return append([]step{{to, false}}, stepsOf(to-1, from)...)
}

// endOf is the link that a way ends at, under a link of its own, if it is checked.
func endOf(head api.Hash, to, from int, l []api.Hop, link linking) (api.Hash, bool) {
	all := stepsOf(to, from)
	if len(all) != len(l) {
		return api.Hash{}, false
	}
	for i, s := range all {
		if link(s.place, l[i]) != head {
			return api.Hash{}, false
		}
		if head = l[i].One; s.far {
			head = l[i].Far
		}
	}
	return head, true
}

// clashOf is what clash has to answer.
func clashOf(head api.Hash, to, from int, a, b []api.Hop, link linking) []string {
	_, one := endOf(head, to, from, a, link)
	_, two := endOf(head, to, from, b, link)
	if !one || !two {
		return nil
	}
	for i, s := range stepsOf(to, from) {
		if told(s.place, a[i]) != told(s.place, b[i]) {
			return []string{told(s.place, a[i]), told(s.place, b[i])}
		}
	}
	return nil
}

// want fails the test, unless clash answers just that.
func want(t *testing.T, l []string, head api.Hash, to, from int, a, b []api.Hop, link linking) {
	t.Helper()
	if got, is := clash(head, to, from, a, b, link); !slices.Equal(got, l) || is != (l != nil) {
		t.Errorf("from %d back to %d, %x and %x: %q, %v; not %q", to, from, a, b, got, is, l)
	}
}

// wantTwins fails the test, unless these are two unlike texts of two hops of one place that have one link.
func wantTwins(t *testing.T, l []string, link linking) {
	t.Helper()
	var links []api.Hash
	for _, text := range l {
		kind, parts, e := tag.Parts(text)
		if kind != api.KLink || len(parts) != 4 || len(parts[0]) != 8 || e != api.OK {
			t.Fatalf("%q: %d, %q, %d", text, kind, parts, e)
		}
		h := api.Hop{Leaf: api.Hash([]byte(parts[1])), One: api.Hash([]byte(parts[2])), Far: api.Hash([]byte(parts[3]))}
		links = append(links, link(int(binary.BigEndian.Uint64([]byte(parts[0]))), h))
	}
	if len(l) != 2 || l[0] == l[1] || links[0] != links[1] {
		t.Errorf("%q: %x", l, links)
	}
}

// anyHop is a hop of hashes of so many unlike ones.
func anyHop(r *rand.Rand, many int) api.Hop {
	one := func() api.Hash { return api.Hash{7: byte(r.Intn(many))} }
	return api.Hop{Leaf: one(), One: one(), Far: one()}
}

// anyWay is a way that is checked under a link, and its head: all that its steps don't go to is any.
func anyWay(r *rand.Rand, to, from, many int, link linking) (api.Hash, []api.Hop) {
	all := stepsOf(to, from)
	l := make([]api.Hop, len(all))
	head := anyHop(r, many).Leaf
	for i := len(all) - 1; i >= 0; i-- {
		l[i] = anyHop(r, many)
		if all[i].far {
			l[i].Far = head
		} else {
			l[i].One = head
		}
		head = link(all[i].place, l[i])
	}
	return head, l
}

// P12.3: clash by hand, of one hop each.
func TestClashByHand(t *testing.T) {
	a, b, c, d := api.Hash{0: 1}, api.Hash{0: 2}, api.Hash{0: 3}, api.Hash{31: 4}
	one := func(leaf, one, far api.Hash) []api.Hop { return []api.Hop{{Leaf: leaf, One: one, Far: far}} }
	x := one(a, b, c)
	head := blind(0, api.Hop{})
	for _, w := range []struct{ to, from int }{{1, 0}, {2, 0}, {2, 1}, {12, 8}, {12, 11}, {13, 12}, {4096, 0}, {4096, 4095}} {
		for _, y := range [][]api.Hop{one(d, b, c), one(a, d, c), one(a, b, d), one(b, a, c), one(d, d, d), one(a, b, api.Hash{}), {{}}} {
			want(t, []string{told(w.to, x[0]), told(w.to, y[0])}, head, w.to, w.from, x, y, blind)
			want(t, []string{told(w.to, y[0]), told(w.to, x[0])}, head, w.to, w.from, y, x, blind)
		}
		want(t, nil, head, w.to, w.from, x, x, blind)
		want(t, nil, head, w.to, w.from, x, one(a, b, c), blind)
		want(t, nil, a, w.to, w.from, x, one(d, b, c), blind)
		for _, y := range []struct {
			l    []api.Hop
			link linking
		}{{one(d, b, c), leafless}, {one(a, d, c), oneless}, {one(a, b, d), farless}} {
			want(t, []string{told(w.to, x[0]), told(w.to, y.l[0])}, y.link(w.to, x[0]), w.to, w.from, x, y.l, y.link)
			want(t, []string{told(w.to, y.l[0]), told(w.to, x[0])}, y.link(w.to, x[0]), w.to, w.from, y.l, x, y.link)
			// The link hangs on the two others.
			for _, link := range []linking{leafless, oneless, farless, Link} {
				if link(w.to, x[0]) != link(w.to, y.l[0]) {
					want(t, nil, link(w.to, x[0]), w.to, w.from, x, y.l, link)
					want(t, nil, link(w.to, y.l[0]), w.to, w.from, x, y.l, link)
				}
			}
		}
	}
}

// P12.3: of all hops that are unlike the first one is told: in the first, in the middle, in the last, in more of them, with its place.
func TestFirstUnlike(t *testing.T) {
	r := rand.New(rand.NewSource(21))
	for _, w := range []struct{ to, from int }{{13, 5}, {12, 9}, {63, 0}, {64, 1}} {
		head, a := anyWay(r, w.to, w.from, 256, leafless)
		all := stepsOf(w.to, w.from)
		for i := range a {
			b := slices.Clone(a)
			b[i].Leaf[31] ^= 1
			step := []string{told(all[i].place, a[i]), told(all[i].place, b[i])}
			want(t, step, head, w.to, w.from, a, b, leafless)
			for j := i + 1; j < len(a); j++ {
				b[j].Leaf[0] ^= 1
				want(t, step, head, w.to, w.from, a, b, leafless)
			}
			want(t, []string{step[1], step[0]}, head, w.to, w.from, b, a, leafless)
		}
		want(t, nil, head, w.to, w.from, a, slices.Clone(a), leafless)
	}
}

// P12.3: none and false, of ways that are the same, of one that isn't checked, of both that aren't.
func TestClashRefused(t *testing.T) {
	r := rand.New(rand.NewSource(22))
	head, a := anyWay(r, 13, 5, 256, leafless)
	b := slices.Clone(a)
	b[2].Leaf[0] ^= 1
	want(t, []string{told(8, a[2]), told(8, b[2])}, head, 13, 5, a, b, leafless)
	wrong := [][]api.Hop{nil, {}, b[:4], b[1:], append(slices.Clone(b), api.Hop{}), append(slices.Clone(b), b...)}
	for i := range b {
		for _, change := range []func(h *api.Hop){func(h *api.Hop) { h.One[5] ^= 1 }, func(h *api.Hop) { h.Far[5] ^= 1 }} {
			l := slices.Clone(b)
			change(&l[i])
			wrong = append(wrong, l)
		}
	}
	for _, l := range wrong {
		want(t, nil, head, 13, 5, a, l, leafless)
		want(t, nil, head, 13, 5, l, a, leafless)
		want(t, nil, head, 13, 5, l, l, leafless)
		for _, other := range wrong {
			want(t, nil, head, 13, 5, l, other, leafless)
		}
	}
	head[0] ^= 1
	want(t, nil, head, 13, 5, a, b, leafless)
	want(t, nil, head, 13, 5, a, a, leafless)
}

// P12.3: places that may not be, under a link that is the same of all.
func TestClashOfWrongPlaces(t *testing.T) {
	head := blind(0, api.Hop{})
	on := api.Hop{One: head, Far: head}
	other := api.Hop{Leaf: api.Hash{1}, One: head, Far: head}
	for _, w := range []struct{ to, from int }{{0, -1}, {-1, -1}, {-1, -2}, {0, 1}, {4, 5}, {4097, 0}, {4097, 4096}, {4098, 4096}, {4097, 4097}, {1 << 32, 0}, {1 << 62, 0}} {
		for n := range 4 {
			a, b := slices.Repeat([]api.Hop{on}, n), slices.Repeat([]api.Hop{other}, n)
			want(t, nil, head, w.to, w.from, a, b, blind)
			want(t, nil, head, w.to, w.from, b, a, blind)
		}
	}
	want(t, []string{told(4096, on), told(4096, other)}, head, 4096, 0, []api.Hop{on}, []api.Hop{other}, blind)
	want(t, nil, head, 4096, 4096, nil, nil, blind)
}

// P12.3, P12.4: two ways that are checked are the same, or two unlike texts are told that have one hash.
func TestClashOfFew(t *testing.T) {
	r := rand.New(rand.NewSource(23))
	met, same := 0, 0
	for range 30000 {
		to := r.Intn(20)
		if r.Intn(20) == 0 {
			to = r.Intn(4097)
		}
		from := r.Intn(to + 1)
		head, a := anyWay(r, to, from, 2, few)
		other, b := anyWay(r, to, from, 2, few)
		if r.Intn(3) == 0 {
			other, b = head, slices.Clone(a)
		}
		l := clashOf(head, to, from, a, b, few)
		want(t, l, head, to, from, a, b, few)
		want(t, clashOf(other, to, from, b, a, few), other, to, from, b, a, few)
		switch {
		case l != nil:
			met++
			wantTwins(t, l, few)
		case head == other:
			same++
			if !slices.Equal(a, b) {
				t.Errorf("from %d back to %d: %x and %x are unlike", to, from, a, b)
			}
		}
	}
	if met < 1000 || same < 1000 {
		t.Errorf("met %d times alone, %d times the same", met, same)
	}
}

// P12.2, P12.3: the link that is told to the inner functions is Link's, and nothing handed in is changed where two texts are told.
func TestToldLink(t *testing.T) {
	r := rand.New(rand.NewSource(24))
	head, a := anyWay(r, 13, 5, 256, Link)
	b := slices.Clone(a)
	b[3].Leaf[9] ^= 1
	for _, l := range [][]api.Hop{a, b, a[:4]} {
		end, e := check(head, 13, 5, l, Link)
		if got, f := Check(head, 13, 5, l); got != end || f != e {
			t.Errorf("%x: %x, %d; not %x, %d", l, got, f, end, e)
		}
	}
	want(t, nil, head, 13, 5, a, b, Link)
	head, a = anyWay(r, 13, 5, 256, leafless)
	b = slices.Clone(a)
	b[3].Leaf[9] ^= 1
	wasA, wasB := slices.Clone(a), slices.Clone(b)
	l, is := clash(head, 13, 5, a, b, leafless)
	if !is || !slices.Equal(a, wasA) || !slices.Equal(b, wasB) {
		t.Errorf("%q, %v", l, is)
	}
	was := slices.Clone(l)
	clear(a)
	clear(b)
	if !slices.Equal(l, was) {
		t.Error("the ways handed in are seen")
	}
	for i, h := range []api.Hop{wasA[3], wasB[3]} {
		if sum, e := tag.Hash(api.KLink, []string{was[i][13:21], was[i][29:61], was[i][69:101], was[i][109:]}); e != api.OK || sum != Link(7, h) {
			t.Errorf("%d: %q", i, was[i])
		}
	}
}

// P12.4: with b as how many bits to has, a way has at most half of b and 1 times b and 2 steps.
func TestHowLong(t *testing.T) {
	for _, to := range append(seq(0, 260), 511, 512, 1023, 1024, 1025, 2047, 2048, 3071, 4031, 4094, 4095, 4096) {
		bits, most := 0, 0
		for to>>bits > 0 {
			bits++
		}
		for from := range to + 1 {
			many := 0
			for range steps(to, from) {
				many++
			}
			if many != len(stepsOf(to, from)) {
				t.Fatalf("from %d back to %d: %d steps", to, from, many)
			}
			most = max(most, many)
		}
		if most > (bits+1)*(bits+2)/2 {
			t.Errorf("from %d, of %d bits: %d steps", to, bits, most)
		}
	}
}

// seq are the numbers from one on till another.
func seq(from, to int) []int {
	var out []int
	for i := from; i < to; i++ {
		out = append(out, i)
	}
	return out
}
