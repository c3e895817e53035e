package span_test

import (
	"math"
	"math/rand"
	"slices"
	"strings"
	"testing"

	"tabulary/api"
	"tabulary/span"
	"tabulary/tree"
)

// P16.1: a slot has its text, the hash of that, and its brief.
func TestSlot(t *testing.T) {
	texts := []string{"", "a", "\x00", "\x00\x00", "\xff\xfe", "two\nlines", strings.Repeat("x", 65536), strings.Repeat("\x00", 65537), strings.Repeat("long", 50000)}
	for size := range 130 {
		texts = append(texts, strings.Repeat("y", size))
	}
	for _, s := range texts {
		for _, b := range append(wrongBriefs(), api.Brief{First: -5, Last: -5, Grave: 8, From: 16, Many: 1, Keep: true}) {
			if got, want := span.Slot(s, b), (api.Slot{S: s, H: dataOf(s), B: b}); got != want {
				t.Errorf("%d bytes, %+v: %x, %v, %+v", len(s), b, got.H, got.Gone, got.B)
			}
		}
	}
}

// P16.1: the hash of a slot by hand.
func TestSlotByHand(t *testing.T) {
	x := span.Slot("abc", api.Brief{})
	// Of 01 00000001 0000000000000003 616263.
	if x.H != hashOf(1, "abc") || x.H == dataOf("abd") || x.H == hashOf(2, "abc") || x.H == hashOf(1, "abc", "") {
		t.Errorf("%x", x.H)
	}
}

// P16.1: a slot that is dropped is Gone, and has no text; its hash and its brief stay.
func TestDrop(t *testing.T) {
	r := rand.New(rand.NewSource(1))
	for _, x := range append(anySlots(r, 300), api.Slot{}, api.Slot{Gone: true}, api.Slot{S: "a"}, api.Slot{S: "a", Gone: true}, span.Slot("", api.Brief{Many: 1}), span.Slot(strings.Repeat("z", 70000), api.Brief{Many: 1})) {
		was := x
		got := span.Drop(x)
		if want := (api.Slot{Gone: true, H: x.H, B: x.B}); got != want || span.Drop(got) != want {
			t.Errorf("%+v: %+v", x, got)
		}
		if x != was {
			t.Errorf("%+v: changed", was)
		}
	}
}

// P16.1: a slot's node is that of its hash and its brief; so is that of one that is dropped.
func TestNode(t *testing.T) {
	r := rand.New(rand.NewSource(2))
	for _, x := range append(anySlots(r, 300), api.Slot{}) {
		want := leafOf(x.H, x.B)
		if got := span.Node(x); got != want || got != tree.Gone(x.H, x.B) || span.Node(span.Drop(x)) != want {
			t.Errorf("%+v: %+v", x, got)
		}
		other := x
		other.S, other.Gone = x.S+"more", !x.Gone
		if span.Node(other) != want {
			t.Errorf("%+v: hangs on more", other)
		}
		other.H[31] ^= 1
		if span.Node(other).H == want.H {
			t.Errorf("%+v: doesn't hang on the hash", other)
		}
		other = x
		other.B.Many++
		if span.Node(other).H == want.H || span.Node(other).B != other.B {
			t.Errorf("%+v: doesn't hang on the brief", other)
		}
	}
	x := span.Slot("text", api.Brief{First: 1, Last: 1, Grave: 1, From: 1, Many: 1})
	if span.Node(x) != tree.Leaf("text", x.B) {
		t.Error("not the leaf of its text")
	}
}

// P16.1: the nodes of slots, each one's, in order.
func TestNodes(t *testing.T) {
	r := rand.New(rand.NewSource(3))
	for _, many := range []int{0, 1, 2, 3, 8, 65, 500} {
		l := anySlots(r, many)
		got := span.Nodes(l)
		if len(got) != many {
			t.Fatalf("%d of %d", len(got), many)
		}
		for i, x := range l {
			if got[i] != leafOf(x.H, x.B) {
				t.Errorf("%d of %d: %+v", i, many, got[i])
			}
		}
		if tree.Root(got) != rootOf(l) {
			t.Errorf("root of %d", many)
		}
	}
	if len(span.Nodes(nil)) != 0 || len(span.Nodes([]api.Slot{})) != 0 {
		t.Error("of none")
	}
}

// P16.1: which items there are, by hand: of seven events, deleted at 1 and 4.
func TestAskByHand(t *testing.T) {
	l := eventsOf(7)
	for _, x := range []struct {
		q    api.Query
		want string
	}{
		{everything(), "oooLGoLLooGLL"},
		{api.Query{}, "s"},
		{between(0, 0), "oooLsss"},
		{between(1, 1), "ooosGss"},
		{between(2, 2), "oosoLss"},
		{between(3, 3), "oososLs"},
		{between(4, 4), "osooGss"},
		{between(5, 5), "osoosLs"},
		{between(6, 6), "ososL"},
		{between(0, 3), "oooLGoLLs"},
		{between(4, 6), "osooGLL"},
		{between(3, 4), "oososLooGss"},
		{between(1, 5), "ooosGoLLooGLs"},
		{between(7, 9), "s"},
		{between(-9, -1), "s"},
		{between(6, 0), "s"},
		// Between the first event and the second one: each node above both is asked for, no leaf is.
		{api.Query{First: 1, Last: 9, Grave: 255, From: 255}, "ooossss"},
		{api.Query{First: 31, Last: 39, Grave: 255, From: 255}, "oss"},
		// At the time of the first one, with the bit of the last one, of the third one, of the second one.
		{api.Query{First: 0, Last: 0, Grave: 64, From: 255}, "oss"},
		{api.Query{First: 0, Last: 0, Grave: 4, From: 255}, "oosss"},
		{api.Query{First: 0, Last: 0, Grave: 2, From: 255}, "ooossss"},
		{api.Query{First: 0, Last: 60, Grave: 2, From: 255}, "ooosGss"},
		{api.Query{First: 0, Last: 60, Grave: 0x48, From: 255}, "oososLosL"},
		{api.Query{First: 0, Last: 60, Grave: 255, From: 16}, "osooGss"},
		{api.Query{First: 0, Last: 60, Grave: 255, From: 128}, "s"},
		{api.Query{First: 0, Last: 60, Grave: 128, From: 255}, "s"},
		{api.Query{First: 0, Last: 60, Grave: 255}, "s"},
		{api.Query{First: 0, Last: 60, From: 255}, "s"},
	} {
		got := span.Ask(l, x.q)
		if kindsIn(got) != x.want || !slices.Equal(got, itemsOf(l, x.q)) {
			t.Errorf("%+v: %s, not %s", x.q, kindsIn(got), x.want)
		}
	}
}

// P16.1: what is told of an item, by hand, and nothing else: of three events, the second one deleted.
func TestItemsByHand(t *testing.T) {
	var l []api.Slot
	for i := range 3 {
		l = append(l, span.Slot(string([]byte{'a' + byte(i)}), api.Brief{First: int64(i), Last: int64(i), Grave: 1, From: 1, Many: 1}))
	}
	l[1] = span.Drop(l[1])
	left := joinOf(leafOf(dataOf("a"), l[0].B), leafOf(dataOf("b"), l[1].B))
	last := leafOf(dataOf("c"), l[2].B)
	for _, x := range []struct {
		first, last int64
		want        []api.Item
	}{
		{0, 2, []api.Item{{}, {}, {Kind: api.ILive, S: "a", B: l[0].B}, {Kind: api.IGone, H: dataOf("b"), B: l[1].B}, {Kind: api.ILive, S: "c", B: l[2].B}}},
		{2, 2, []api.Item{{}, {Kind: api.ISkip, H: left.H, B: left.B}, {Kind: api.ILive, S: "c", B: l[2].B}}},
		{1, 1, []api.Item{{}, {}, {Kind: api.ISkip, H: leafOf(dataOf("a"), l[0].B).H, B: l[0].B}, {Kind: api.IGone, H: dataOf("b"), B: l[1].B}, {Kind: api.ISkip, H: last.H, B: last.B}}},
		{3, 9, []api.Item{{Kind: api.ISkip, H: joinOf(left, last).H, B: api.Brief{Last: 2, Grave: 1, From: 1, Many: 3}}}},
	} {
		if got := span.Ask(l, api.Query{First: x.first, Last: x.last, Grave: 1, From: 1}); !slices.Equal(got, x.want) {
			t.Errorf("%d to %d: %+v, not %+v", x.first, x.last, got, x.want)
		}
	}
}

// P16.1: of no slots no items, whatever is asked for; of one a single one.
func TestAskOfFew(t *testing.T) {
	r := rand.New(rand.NewSource(4))
	for _, q := range queriesOf(9) {
		if len(span.Ask(nil, q)) != 0 || len(span.Ask([]api.Slot{}, q)) != 0 {
			t.Errorf("%+v: of none", q)
		}
		for _, x := range append(anySlots(r, 30), api.Slot{}) {
			if got := span.Ask([]api.Slot{x}, q); len(got) != 1 || !slices.Equal(got, itemsOf([]api.Slot{x}, q)) {
				t.Errorf("%+v, %+v: %+v", q, x, got)
			}
		}
	}
}

// P16.1: of trees of each size, by many queries.
func TestAskOfSizes(t *testing.T) {
	for many := range 50 {
		l := eventsOf(many)
		for _, q := range queriesOf(many) {
			if got, want := span.Ask(l, q), itemsOf(l, q); !slices.Equal(got, want) {
				t.Errorf("%d, %+v: %s, not %s", many, q, kindsIn(got), kindsIn(want))
			}
		}
	}
}

// P16.1: of great trees, also of more leaves than a log has.
func TestAskOfGreatTrees(t *testing.T) {
	for _, many := range []int{127, 128, 129, 1023, 1024, 1025, 4095, 4096, 4097} {
		l := eventsOf(many)
		for _, q := range []api.Query{everything(), {}, between(many-1, many-1), between(many/2-1, many/2), {First: 1, Last: 9, Grave: 255, From: 255}, {First: 0, Last: math.MaxInt64, Grave: 8, From: 8}} {
			if got, want := span.Ask(l, q), itemsOf(l, q); !slices.Equal(got, want) {
				t.Errorf("%d, %+v: %d items, not %d", many, q, len(got), len(want))
			}
		}
	}
}

// P16.1: one leaf alone, at each place: all nodes above it are open, and what stands beside it is skipped.
func TestAskOfOneLeaf(t *testing.T) {
	for many := 1; many <= 40; many++ {
		l := eventsOf(many)
		for i, x := range l {
			got := span.Ask(l, between(i, i))
			steps := 0
			for at, size := i, many; size > 1; steps++ {
				if half := halfOf(size); at < half {
					size = half
				} else {
					at, size = at-half, size-half
				}
			}
			kinds := kindsIn(got)
			one := "L"
			if x.Gone {
				one = "G"
			}
			if strings.Count(kinds, "o") != steps || strings.Count(kinds, "s") != steps || strings.Count(kinds, one) != 1 || len(kinds) != 2*steps+1 {
				t.Errorf("%d of %d: %s", i, many, kinds)
			}
			if !slices.Equal(got, itemsOf(l, between(i, i))) {
				t.Errorf("%d of %d: %+v", i, many, got)
			}
		}
	}
}

// P16.1: so it is of slots of any kind: Gone with a text, of another hash, of a brief that isn't right, or that isn't of one, so that joining hangs on the tree.
func TestAskOfAnySlots(t *testing.T) {
	r := rand.New(rand.NewSource(5))
	for range 4000 {
		l, q := anySlots(r, r.Intn(24)), anyQuery(r)
		if got, want := span.Ask(l, q), itemsOf(l, q); !slices.Equal(got, want) {
			t.Errorf("%+v, %+v: %s, not %s", l, q, kindsIn(got), kindsIn(want))
		}
	}
}

// P16.1: two briefs whose Many goes round to 0 hide what is below them, though each leaf is asked for; together with a third one that hangs on the side.
func TestAskOfManyGoneRound(t *testing.T) {
	half := api.Slot{B: api.Brief{Last: 9, Grave: 1, From: 1, Many: 1 << 63}}
	one := api.Slot{B: api.Brief{Last: 9, Grave: 1, From: 1, Many: 1}}
	q := api.Query{Last: 9, Grave: 1, From: 1}
	for _, x := range []struct {
		l    []api.Slot
		want string
	}{
		{[]api.Slot{half, half}, "s"}, {[]api.Slot{half, half, one}, "osL"}, {[]api.Slot{half, one, half}, "ooLLL"}, {[]api.Slot{half, one, half, half}, "ooLLs"}, {[]api.Slot{one, one, half, half}, "ooLLs"},
		{[]api.Slot{half, half, half, half}, "s"}, {[]api.Slot{half, half, half}, "osL"}, {[]api.Slot{one, half, half}, "ooLLL"},
	} {
		if got := span.Ask(x.l, q); kindsIn(got) != x.want || !slices.Equal(got, itemsOf(x.l, q)) {
			t.Errorf("%+v: %s, not %s", x.l, kindsIn(got), x.want)
		}
	}
}

// P16.1: no list that is handed in is written into, neither within its length nor behind it, and what was told stays as it was told.
func TestAskWritesNothing(t *testing.T) {
	r := rand.New(rand.NewSource(6))
	for range 300 {
		room := anySlots(r, 20)
		many := r.Intn(20)
		l, was := room[:many], slices.Clone(room)
		q := anyQuery(r)
		nodes, items := span.Nodes(l), span.Ask(l, q)
		if !slices.Equal(room, was) {
			t.Fatalf("of %d: changed", many)
		}
		told, kept := slices.Clone(nodes), slices.Clone(items)
		for i := range room {
			room[i] = anySlot(r)
		}
		span.Ask(l, q)
		span.Nodes(room)
		if !slices.Equal(nodes, told) || !slices.Equal(items, kept) {
			t.Fatalf("of %d: what was told is changed", many)
		}
	}
	l := eventsOf(9)
	a, b := span.Ask(l, everything()), span.Ask(l, everything())
	x, y := span.Nodes(l), span.Nodes(l)
	for i := range a {
		a[i] = api.Item{Kind: 9}
	}
	for i := range x {
		x[i] = api.Node{}
	}
	if !slices.Equal(b, itemsOf(l, everything())) || tree.Root(y) != rootOf(l) || !slices.Equal(l, eventsOf(9)) {
		t.Error("shared")
	}
}
