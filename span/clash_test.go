package span

import (
	"bytes"
	"encoding/binary"
	"math"
	"math/rand"
	"slices"
	"testing"

	"tabulary/api"
	"tabulary/brief"
	"tabulary/tag"
	"tabulary/tree"
)

// told is the text of a kind and parts, laid by hand.
func told(kind byte, parts ...string) string {
	text := []byte{kind, 0, 0, 0, byte(len(parts))}
	for _, part := range parts {
		text = binary.BigEndian.AppendUint64(text, uint64(len(part)))
		text = append(text, part...)
	}
	return string(text)
}

// laid are the bytes of a hash, a brief or a node, laid by the library.
func laid(x any) string {
	var out bytes.Buffer
	if err := binary.Write(&out, binary.BigEndian, x); err != nil {
		panic(err)
	}
	return out.String()
}

// toldData, toldLeaf and toldNode are what is hashed of a text, of a leaf, of a node.
func toldData(s string) string                   { return told(1, s) }
func toldLeaf(h api.Hash, b api.Brief) string    { return told(2, laid(h), laid(b)) }
func toldNode(left, right api.Node) string       { return told(3, laid(left), laid(right)) }
func blindText(s string) api.Hash                { return api.Hash{5: 1} }
func blindLeaf(_ api.Hash, b api.Brief) api.Node { return api.Node{H: api.Hash{6: 1}, B: b} }

// blindJoin is a node of the same hash above all two.
func blindJoin(a, b api.Node) api.Node {
	return api.Node{H: api.Hash{7: 1}, B: brief.Join(a.B, b.B)}
}

// leftless is a node above two whose hash does not hang on the left one, rightless one whose doesn't on the right one.
func leftless(a, b api.Node) api.Node {
	return api.Node{H: tree.Join(api.Node{}, b).H, B: brief.Join(a.B, b.B)}
}

func rightless(a, b api.Node) api.Node {
	return api.Node{H: tree.Join(a, api.Node{}).H, B: brief.Join(a.B, b.B)}
}

// some is a hash of so many bits.
func some(text string, bits int) api.Hash {
	n := uint32(1)
	for _, c := range []byte(text) {
		n = (n ^ uint32(c)) * 0x01000193
	}
	n ^= n >> 15
	return api.Hash{8: byte(n>>9) & (1<<bits - 1)}
}

// few is a hashing of so many bits for a text, a leaf, a node.
func few(text, leaf, node int) hashing {
	return hashing{
		text: func(s string) api.Hash { return some(toldData(s), text) },
		leaf: func(h api.Hash, b api.Brief) api.Node { return api.Node{H: some(toldLeaf(h, b), leaf), B: b} },
		join: func(a, b api.Node) api.Node {
			return api.Node{H: some(toldNode(a, b), node), B: brief.Join(a.B, b.B)}
		},
	}
}

// half is the half of n, found by doubling.
func half(n int) int {
	out := 1
	for 2*out < n {
		out *= 2
	}
	return out
}

// A spot is where a node is: at which leaf it begins, and how many leaves it has.
type spot struct{ at, size int }

// A known is what is known of a node: its item, the hash of its event, the two nodes below it.
type known struct {
	item        api.Item
	data        api.Hash
	left, right api.Node
}

// root is the node of slots, of one or more, under a hashing.
func root(l []api.Slot, h hashing) api.Node {
	if len(l) == 1 {
		return h.leaf(l[0].H, l[0].B)
	}
	return h.join(root(l[:half(len(l))], h), root(l[half(len(l)):], h))
}

// items are the items of slots under a hashing; what is known of each node is put down at its spot.
func items(at int, l []api.Slot, q api.Query, h hashing, nodes map[spot]known) []api.Item {
	n := root(l, h)
	var m known
	var below []api.Item
	switch {
	case !brief.May(q, n.B):
		m.item = api.Item{Kind: 1, H: n.H, B: n.B}
	case len(l) > 1:
		k := half(len(l))
		m.left, m.right = root(l[:k], h), root(l[k:], h)
		below = slices.Concat(items(at, l[:k], q, h, nodes), items(at+k, l[k:], q, h, nodes))
	case l[0].Gone:
		m.item, m.data = api.Item{Kind: 3, H: l[0].H, B: l[0].B}, l[0].H
	default:
		m.item, m.data = api.Item{Kind: 2, S: l[0].S, B: l[0].B}, l[0].H
	}
	nodes[spot{at, len(l)}] = m
	return append([]api.Item{m.item}, below...)
}

// found are the events that are asked for.
func found(l []api.Slot, q api.Query) []api.Entry {
	var out []api.Entry
	for i, x := range l {
		if brief.May(q, x.B) {
			out = append(out, api.Entry{At: i, S: x.S, Gone: x.Gone, B: x.B})
		}
	}
	return out
}

// unlike: are entries unlike in more than what is Gone?
func unlike(a, b []api.Entry) bool {
	if len(a) != len(b) {
		return true
	}
	for i, x := range a {
		y := b[i]
		if x.At != y.At || x.B != y.B || !x.Gone && !y.Gone && x.S != y.S {
			return true
		}
	}
	return false
}

// first are the two texts of the first node, from a spot on, that isn't made of the same; in both it is the same node.
func first(s spot, a, b map[spot]known) []string {
	x, y := a[s], b[s]
	if (x.item.Kind == 1) != (y.item.Kind == 1) {
		panic("one is skipped alone")
	}
	switch {
	case x.item.Kind == 1:
		return nil
	case s.size == 1 && x.data != y.data:
		return []string{toldLeaf(x.data, x.item.B), toldLeaf(y.data, y.item.B)}
	case s.size == 1 && x.item.Kind == 2 && y.item.Kind == 2 && x.item.S != y.item.S:
		return []string{toldData(x.item.S), toldData(y.item.S)}
	case s.size == 1:
		return nil
	case x.left != y.left || x.right != y.right:
		return []string{toldNode(x.left, x.right), toldNode(y.left, y.right)}
	}
	k := half(s.size)
	if texts := first(spot{s.at, k}, a, b); texts != nil {
		return texts
	}
	return first(spot{s.at + k, s.size - k}, a, b)
}

// want fails the test, unless clash of the items of two rows of slots that have one root answers just that, and the two texts the other way round of these exchanged.
func want(t *testing.T, texts []string, a, b []api.Slot, q api.Query, h hashing) {
	t.Helper()
	top := root(a, h)
	if root(b, h) != top {
		t.Fatalf("%+v, %+v: other roots", a, b)
	}
	x, y := items(0, a, q, h, map[spot]known{}), items(0, b, q, h, map[spot]known{})
	was, other := slices.Clone(x), slices.Clone(y)
	got, is := clash(top, len(a), q, x, y, h)
	if !slices.Equal(got, texts) || is != (texts != nil) {
		t.Errorf("%+v, %+v: %q, %v; not %q", a, b, got, is, texts)
	}
	got, is = clash(top, len(a), q, y, x, h)
	slices.Reverse(got)
	if !slices.Equal(got, texts) || is != (texts != nil) {
		t.Errorf("%+v, %+v, exchanged: %q, %v; not %q", a, b, got, is, texts)
	}
	if !slices.Equal(x, was) || !slices.Equal(y, other) {
		t.Errorf("%+v, %+v: items are changed", a, b)
	}
	if len(a) < 5 {
		wantNotTaken(t, top, len(a), q, x, y, h)
	}
}

// wantNotTaken fails the test, unless clash answers none where either row of items isn't taken, or the number or the root is another one.
func wantNotTaken(t *testing.T, top api.Node, n int, q api.Query, x, y []api.Item, h hashing) {
	t.Helper()
	none := func(top api.Node, n int, x, y []api.Item) {
		t.Helper()
		if got, is := clash(top, n, q, x, y, h); len(got) != 0 || is {
			t.Errorf("%d of %+v, %+v: %q, %v", n, x, y, got, is)
		}
	}
	wrong := slices.Clone(y)
	wrong[len(wrong)-1].Kind = 4
	none(top, n, x, wrong)
	none(top, n, wrong, x)
	none(top, n, x, y[:len(y)-1])
	none(top, n, y[:len(y)-1], x)
	none(top, n, x, append(slices.Clone(y), y[0]))
	none(top, n, append(slices.Clone(x), api.Item{}), y)
	none(top, n, x, nil)
	none(top, n, nil, y)
	none(top, n, nil, nil)
	none(top, 0, x, y)
	none(top, -1, x, y)
	none(top, n+4096, x, y)
	none(top, math.MinInt, x, y)
	none(top, math.MaxInt, x, y)
	other := top
	other.H[31] ^= 1
	none(other, n, x, y)
	other = top
	other.B.Many++
	none(other, n, x, y)
}

// briefAt is a brief of one event at a time.
func briefAt(at int64) api.Brief {
	return api.Brief{First: at, Last: at, Grave: 1, From: 1, Many: 1}
}

// live and gone are slots of texts at time 1, under a hashing.
func live(s string, h hashing) api.Slot { return api.Slot{S: s, H: h.text(s), B: briefAt(1)} }
func gone(s string, h hashing) api.Slot { return Drop(live(s, h)) }

// at is a slot at another time.
func at(time int64, x api.Slot) api.Slot {
	x.B = briefAt(time)
	return x
}

// now is a query of time 1.
func now() api.Query { return api.Query{First: 1, Last: 1, Grave: 1, From: 1} }

// rowOf are so many slots of unlike texts, of which one is put in at a place.
func rowOf(n, i int, x api.Slot, h hashing) []api.Slot {
	var l []api.Slot
	for k := range n {
		l = append(l, live(string([]byte{'r', byte(k)}), h))
	}
	l[i] = x
	return l
}

// P16.3: of a leaf whose event's hashes are the same, the two texts that were told: at each place, on the left side and on the right one.
func TestClashOfTexts(t *testing.T) {
	h := ours()
	h.text = blindText
	for _, n := range []int{1, 2, 3, 4, 5, 7, 9, 13} {
		for i := range n {
			a, b := rowOf(n, i, live("x", h), h), rowOf(n, i, live("another", h), h)
			want(t, []string{toldData("x"), toldData("another")}, a, b, now(), h)
			want(t, []string{toldData("x"), toldData("")}, a, rowOf(n, i, live("", h), h), now(), h)
			want(t, nil, a, a, now(), h)
			// Gone in the one alone, in either one, or in both: no two texts are told, so that none are unlike.
			want(t, nil, a, rowOf(n, i, gone("another", h), h), now(), h)
			want(t, nil, rowOf(n, i, gone("x", h), h), b, now(), h)
			want(t, nil, rowOf(n, i, gone("x", h), h), rowOf(n, i, gone("another", h), h), now(), h)
			// Gone at another place.
			c := slices.Clone(b)
			c[(i+1)%n] = Drop(c[(i+1)%n])
			if n > 1 {
				want(t, []string{toldData("x"), toldData("another")}, a, c, now(), h)
				want(t, []string{toldData("another"), toldData("x")}, c, a, now(), h)
			}
		}
	}
}

// P16.3: of a leaf whose event's hashes are unlike, its two texts: at each place.
func TestClashOfLeaves(t *testing.T) {
	h := ours()
	h.leaf = blindLeaf
	for _, n := range []int{1, 2, 3, 4, 5, 7, 9, 13} {
		for i := range n {
			x, y := live("x", h), live("y", h)
			a, b := rowOf(n, i, x, h), rowOf(n, i, y, h)
			want(t, []string{toldLeaf(x.H, x.B), toldLeaf(y.H, y.B)}, a, b, now(), h)
			// Their entries are unlike just in that one is Gone, or are the same: none, though the hashes are unlike.
			want(t, nil, a, rowOf(n, i, gone("y", h), h), now(), h)
			want(t, nil, rowOf(n, i, gone("x", h), h), b, now(), h)
			want(t, nil, rowOf(n, i, gone("x", h), h), rowOf(n, i, gone("y", h), h), now(), h)
			if k := (i + 1) % n; n > 1 {
				// Where another entry is unlike, the first leaf counts, Gone or not.
				for _, z := range []api.Slot{live("z", h), gone("z", h)} {
					for _, w := range []api.Slot{live("w", h), gone("w", h)} {
						c, d := slices.Clone(a), slices.Clone(b)
						c[k], d[k] = z, w
						texts := []string{toldLeaf(x.H, x.B), toldLeaf(y.H, y.B)}
						if k < i {
							texts = []string{toldLeaf(z.H, z.B), toldLeaf(w.H, w.B)}
						}
						want(t, texts, c, d, now(), h)
					}
				}
			}
		}
	}
}

// P16.3: of a leaf whose event's hashes are unlike, its texts are told, and not those of the event, though all texts have one hash there, too.
func TestClashOfLeavesAhead(t *testing.T) {
	h := hashing{text: func(s string) api.Hash { return some(s, 1) }, leaf: blindLeaf, join: tree.Join}
	seen := 0
	for _, s := range []string{"b", "c", "d", "e", "f", "g"} {
		x, y := live("a", h), live(s, h)
		if x.H == y.H {
			want(t, []string{toldData("a"), toldData(s)}, []api.Slot{x}, []api.Slot{y}, now(), h)
			seen |= 1
		} else {
			want(t, []string{toldLeaf(x.H, x.B), toldLeaf(y.H, y.B)}, []api.Slot{x}, []api.Slot{y}, now(), h)
			seen |= 2
		}
	}
	if seen != 3 {
		t.Error(seen)
	}
}

// P16.3: of two children, both nodes' texts: the left one is unlike, the right one, both.
func TestClashOfChildren(t *testing.T) {
	for _, join := range []func(a, b api.Node) api.Node{blindJoin, leftless, rightless} {
		h := ours()
		h.join = join
		x, y, z, w := live("x", h), live("y", h), live("z", h), live("w", h)
		for _, p := range [][2][]api.Slot{{{x, y}, {z, y}}, {{x, y}, {x, z}}, {{x, y}, {z, w}}, {{x, y}, {y, x}}} {
			a, b := p[0], p[1]
			if root(a, h) != root(b, h) {
				continue
			}
			texts := []string{toldNode(root(a[:1], h), root(a[1:], h)), toldNode(root(b[:1], h), root(b[1:], h))}
			want(t, texts, a, b, now(), h)
			// One of them is Gone: where just its text is unlike, no entry tells it.
			for i := range a {
				c := slices.Clone(b)
				c[i] = Drop(c[i])
				if a[1-i] == b[1-i] {
					want(t, nil, a, c, now(), h)
				} else {
					want(t, texts, a, c, now(), h)
				}
			}
		}
	}
}

// P16.3: one side is skipped in the one answer and open in the other one: the node above it is told.
func TestClashOfSkipped(t *testing.T) {
	h := ours()
	h.join = blindJoin
	for n := 2; n < 18; n++ {
		k := half(n)
		a, b := rowOf(n, 0, live("x", h), h), rowOf(n, 0, live("x", h), h)
		for i := range n {
			// In the one what is at time 1 is on the left side, in the other one on the right one.
			a[i], b[i] = at(2, a[i]), at(2, b[i])
		}
		a[0].B, b[n-1].B = briefAt(1), briefAt(1)
		texts := []string{toldNode(root(a[:k], h), root(a[k:], h)), toldNode(root(b[:k], h), root(b[k:], h))}
		want(t, texts, a, b, now(), h)
		// Below a node that is skipped in both, nothing is held against each other.
		q := now()
		q.First, q.Last = 3, 3
		want(t, nil, a, b, q, h)
	}
}

// P16.3: of two nodes with unlike children the one above counts, of two beside one another that on the left side, and all that is below the left one goes ahead of the right one.
func TestClashOfTheFirst(t *testing.T) {
	h := hashing{text: blindText, leaf: tree.Gone, join: blindJoin}
	s := func(text string, time int64) api.Slot { return at(time, live(text, h)) }
	all := api.Query{First: 1, Last: 9, Grave: 1, From: 1}
	node := func(x, y api.Slot) string { return toldNode(root([]api.Slot{x}, h), root([]api.Slot{y}, h)) }
	// Four leaves; leaves are unlike by their times, texts are all of one hash.
	a := []api.Slot{s("a", 1), s("b", 2), s("c", 3), s("d", 4)}
	for _, x := range []struct {
		b    []api.Slot
		want []string
	}{
		// Exchanged below the left side, the right one, both.
		{[]api.Slot{s("a", 2), s("b", 1), s("c", 3), s("d", 4)}, []string{node(a[0], a[1]), node(a[1], a[0])}},
		{[]api.Slot{s("a", 1), s("b", 2), s("c", 4), s("d", 3)}, []string{node(a[2], a[3]), node(a[3], a[2])}},
		{[]api.Slot{s("a", 2), s("b", 1), s("c", 4), s("d", 3)}, []string{node(a[0], a[1]), node(a[1], a[0])}},
		// A text below the left side, ahead of two unlike children on the right one, though these are higher.
		{[]api.Slot{s("x", 1), s("b", 2), s("c", 4), s("d", 3)}, []string{toldData("a"), toldData("x")}},
		{[]api.Slot{s("a", 1), s("x", 2), s("c", 4), s("d", 3)}, []string{toldData("b"), toldData("x")}},
		// Two unlike children, ahead of a text below them, and of one on the right side.
		{[]api.Slot{s("x", 2), s("y", 1), s("z", 3), s("d", 4)}, []string{node(a[0], a[1]), node(a[1], a[0])}},
		{[]api.Slot{s("a", 1), s("b", 2), s("x", 3), s("y", 4)}, []string{toldData("c"), toldData("x")}},
		{[]api.Slot{s("a", 1), s("b", 2), s("c", 3), s("y", 4)}, []string{toldData("d"), toldData("y")}},
		// The root itself, ahead of all.
		{[]api.Slot{s("a", 1), s("x", 3), s("c", 2), s("y", 4)}, []string{toldNode(root(a[:2], h), root(a[2:], h)), ""}},
		{[]api.Slot{s("a", 3), s("b", 4), s("c", 1), s("d", 2)}, []string{toldNode(root(a[:2], h), root(a[2:], h)), ""}},
	} {
		if x.want[1] == "" {
			x.want[1] = toldNode(root(x.b[:2], h), root(x.b[2:], h))
		}
		want(t, x.want, a, x.b, all, h)
	}
}

// P16.3: entries at other places, of another number, of another brief are unlike, also where they are Gone.
func TestClashOfUnlikeEntries(t *testing.T) {
	h := ours()
	h.join = blindJoin
	x := gone("x", h)
	a := []api.Slot{x, at(2, x), at(2, x), at(2, x)}
	for i := 1; i < 4; i++ {
		b := slices.Clone(a)
		b[0], b[i] = b[i], b[0]
		k := 2
		texts := []string{toldNode(root(a[:k], h), root(a[k:], h)), toldNode(root(b[:k], h), root(b[k:], h))}
		if i == 1 {
			// Below the left side, the nodes of which are the same.
			texts = []string{toldNode(root(a[:1], h), root(a[1:2], h)), toldNode(root(b[:1], h), root(b[1:2], h))}
		}
		want(t, texts, a, b, now(), h)
	}
	// One more event is at time 1 in the one.
	both := []api.Slot{x, x, at(2, x)}
	one := []api.Slot{x, at(2, x), at(2, x)}
	want(t, []string{toldNode(root(both[:2], h), root(both[2:], h)), toldNode(root(one[:2], h), root(one[2:], h))}, both, one, now(), h)
	// Their briefs are unlike in Keep alone.
	kept, other := []api.Slot{x, x}, []api.Slot{x, x}
	kept[0].B.Keep, other[1].B.Keep = true, true
	want(t, []string{toldNode(root(kept[:1], h), root(kept[1:], h)), toldNode(root(other[:1], h), root(other[1:], h))}, kept, other, now(), h)
}

// anySlot is a slot of few times and texts.
func anySlot(r *rand.Rand, h hashing) api.Slot {
	x := live(string([]byte{byte('a' + r.Intn(5))}), h)
	x.B = briefAt(1 + int64(r.Intn(2)))
	if r.Intn(4) == 0 {
		x = Drop(x)
	}
	return x
}

// P16.3: any two answers that have one root, under hashes of a few bits, held against a search of its own; P16.4: their entries are the same, but for what was deleted, or two unlike texts of one hash are told.
func TestClashOfAny(t *testing.T) {
	r := rand.New(rand.NewSource(21))
	met := map[byte]int{}
	alike := 0
	for range 6000 {
		h := few(r.Intn(4), r.Intn(4), r.Intn(3))
		n := 1 + r.Intn(7)
		var a, b []api.Slot
		for range n {
			a = append(a, anySlot(r, h))
		}
		b = slices.Clone(a)
		for range 1 + r.Intn(3) {
			i, k := r.Intn(n), r.Intn(n)
			switch r.Intn(4) {
			case 0:
				b[i], b[k] = b[k], b[i]
			case 1:
				b[i] = Drop(b[i])
			case 2:
				b[i].B, b[k].B = b[k].B, b[i].B
			default:
				x := anySlot(r, h)
				b[i].S, b[i].H, b[i].Gone = x.S, x.H, x.Gone
			}
		}
		if root(a, h) != root(b, h) {
			continue
		}
		q := api.Query{First: 1, Last: 1 + int64(r.Intn(2)), Grave: 1, From: 1}
		x, y := map[spot]known{}, map[spot]known{}
		items(0, a, q, h, x)
		items(0, b, q, h, y)
		if !unlike(found(a, q), found(b, q)) {
			want(t, nil, a, b, q, h)
			alike++
			continue
		}
		texts := first(spot{0, n}, x, y)
		want(t, texts, a, b, q, h)
		wantTwins(t, texts, h)
		met[texts[0][0]]++
	}
	if met[1] < 100 || met[2] < 100 || met[3] < 300 || alike < 1000 {
		t.Errorf("met %d, alike %d", met, alike)
	}
}

// wantTwins fails the test, unless these are two unlike texts of one kind that have one hash.
func wantTwins(t *testing.T, texts []string, h hashing) {
	t.Helper()
	if len(texts) != 2 || texts[0] == texts[1] {
		t.Fatalf("%q", texts)
	}
	var sums []api.Hash
	for _, text := range texts {
		kind, parts, e := tag.Parts(text)
		if e != api.OK {
			t.Fatalf("%q: %d", text, e)
		}
		switch kind {
		case api.KData:
			sums = append(sums, h.text(parts[0]))
		case api.KLeaf:
			b, e := brief.Parse(parts[1])
			if e != api.OK {
				t.Fatalf("%q: %d", text, e)
			}
			sums = append(sums, h.leaf(api.Hash([]byte(parts[0])), b).H)
		case api.KNode:
			var two [2]api.Node
			for i, part := range parts {
				if err := binary.Read(bytes.NewReader([]byte(part)), binary.BigEndian, &two[i]); err != nil {
					t.Fatal(err)
				}
			}
			sums = append(sums, h.join(two[0], two[1]).H)
		}
	}
	if texts[0][0] != texts[1][0] || sums[0] != sums[1] {
		t.Errorf("%q: %x", texts, sums)
	}
}

// P16.3: what is told are the texts that chapter 3 hashes.
func TestTextsOfClash(t *testing.T) {
	x := Slot("text", briefAt(5))
	y := Slot("", briefAt(6))
	for _, v := range []struct {
		text string
		h    api.Hash
	}{{toldData("text"), x.H}, {toldData(""), y.H}, {toldLeaf(x.H, x.B), Node(x).H}, {toldNode(Node(x), Node(y)), tree.Join(Node(x), Node(y)).H}} {
		kind, parts, e := tag.Parts(v.text)
		if sum, bad := tag.Hash(kind, parts); e != api.OK || bad != api.OK || sum != v.h {
			t.Errorf("%q: %x, not %x", v.text, sum, v.h)
		}
	}
}

// P16.3: Clash with the hashes as they are: nobody knows two unlike answers that are both taken.
func TestClashOfNone(t *testing.T) {
	r := rand.New(rand.NewSource(22))
	h := ours()
	for range 300 {
		n := 1 + r.Intn(9)
		var a []api.Slot
		for range n {
			a = append(a, anySlot(r, h))
		}
		b := slices.Clone(a)
		i, k := r.Intn(n), r.Intn(n)
		b[i] = Drop(b[i])
		q := api.Query{First: 1, Last: 1 + int64(r.Intn(2)), Grave: 1, From: 1}
		want(t, nil, a, b, q, h)
		top := root(a, h)
		x := Ask(a, q)
		c := slices.Clone(a)
		c[i], c[k] = c[k], c[i]
		c[0].S, c[0].H = "other", h.text("other")
		for _, y := range [][]api.Item{x, Ask(b, q), Ask(c, q), nil, {}, Ask(a[:n-1], q), {{Kind: 1, H: top.H, B: top.B}}} {
			for _, p := range [][2][]api.Item{{x, y}, {y, x}, {y, y}} {
				for _, many := range []int{n, n + 1, 0, -1, 4097, math.MinInt, math.MaxInt} {
					if texts, is := Clash(top, many, q, p[0], p[1]); len(texts) != 0 || is {
						t.Errorf("%d: %q, %v", many, texts, is)
					}
				}
			}
		}
	}
	if texts, is := Clash(tree.None(), 0, now(), nil, nil); len(texts) != 0 || is {
		t.Errorf("of none: %q, %v", texts, is)
	}
}
