package span_test

import (
	"math"
	"math/rand"
	"slices"
	"strings"
	"testing"

	"tabulary/api"
	"tabulary/span"
	"tabulary/tree"
)

// P16.2: what is asked is taken, at trees of each size and by many queries: the entries of just the events that are asked for.
func TestCheckOfSizes(t *testing.T) {
	for many := range 50 {
		l := eventsOf(many)
		root := rootOf(l)
		for _, q := range queriesOf(many) {
			wantTaken(t, entriesOf(l, q), root, many, q, itemsOf(l, q))
		}
	}
}

// P16.2: so it is at great trees.
func TestCheckOfGreatTrees(t *testing.T) {
	for _, many := range greatSizes() {
		l := eventsOf(many)
		root := rootOf(l)
		for _, q := range []api.Query{everything(), {}, between(many-1, many-1), between(many/2-1, many/2), {First: 1, Last: 9, Grave: 255, From: 255}, {First: 0, Last: math.MaxInt64, Grave: 8, From: 8}} {
			wantTaken(t, entriesOf(l, q), root, many, q, itemsOf(l, q))
		}
	}
}

// P16.2: one leaf alone, at each place.
func TestCheckOfOneLeaf(t *testing.T) {
	for many := 1; many <= 40; many++ {
		l := eventsOf(many)
		root := rootOf(l)
		for i, x := range l {
			wantTaken(t, []api.Entry{{At: i, S: x.S, Gone: x.Gone, B: x.B}}, root, many, between(i, i), itemsOf(l, between(i, i)))
		}
	}
}

// P16.2: by hand: of three events, the second one deleted.
func TestCheckByHand(t *testing.T) {
	b := func(at int64) api.Brief {
		return api.Brief{First: at, Last: at, Grave: 1, From: 1, Many: 1, Keep: at == 0}
	}
	one, two, three := leafOf(dataOf("one"), b(0)), leafOf(dataOf("two"), b(5)), leafOf(dataOf(""), b(9))
	left := joinOf(one, two)
	root := joinOf(left, three)
	for _, x := range []struct {
		first, last int64
		l           []api.Item
		want        []api.Entry
	}{
		{0, 9, []api.Item{{Kind: 0}, {Kind: 0}, {Kind: 2, S: "one", B: b(0)}, {Kind: 3, H: dataOf("two"), B: b(5)}, {Kind: 2, B: b(9)}}, []api.Entry{{At: 0, S: "one", B: b(0)}, {At: 1, Gone: true, B: b(5)}, {At: 2, B: b(9)}}},
		{9, 9, []api.Item{{Kind: 0}, {Kind: 1, H: left.H, B: left.B}, {Kind: 3, H: dataOf(""), B: b(9)}}, []api.Entry{{At: 2, Gone: true, B: b(9)}}},
		{4, 6, []api.Item{{Kind: 0}, {Kind: 0}, {Kind: 1, H: one.H, B: one.B}, {Kind: 2, S: "two", B: b(5)}, {Kind: 1, H: three.H, B: three.B}}, []api.Entry{{At: 1, S: "two", B: b(5)}}},
		{1, 4, []api.Item{{Kind: 0}, {Kind: 0}, {Kind: 1, H: one.H, B: one.B}, {Kind: 1, H: two.H, B: two.B}, {Kind: 1, H: three.H, B: three.B}}, nil},
		{6, 8, []api.Item{{Kind: 0}, {Kind: 1, H: left.H, B: left.B}, {Kind: 1, H: three.H, B: three.B}}, nil},
		{10, 99, []api.Item{{Kind: 1, H: root.H, B: root.B}}, nil},
	} {
		wantTaken(t, x.want, root, 3, api.Query{First: x.first, Last: x.last, Grave: 1, From: 1}, x.l)
	}
}

// P16.2: a number of leaves that may not be: ErrArg, whatever the items and the root are.
func TestCheckOfWrongMany(t *testing.T) {
	l := eventsOf(9)
	items := itemsOf(l, everything())
	for _, n := range []int{-1, -2, -9, -4096, math.MinInt, math.MinInt + 9, -1 << 32, 4097, 4098, 8192, 1 << 32, 1<<32 + 9, math.MaxInt, math.MaxInt - 1} {
		for _, x := range [][]api.Item{items, nil, {}, items[:3], {{Kind: -1}}, {{Kind: math.MaxInt, S: "s"}}, {{Kind: 1}}} {
			for _, root := range []api.Node{rootOf(l), noneOf(), {}} {
				if got, e := span.Check(root, n, everything(), x); e != api.ErrArg || len(got) != 0 {
					t.Errorf("%d: %+v, %d", n, got, e)
				}
			}
		}
	}
	great := eventsOf(4097)
	if got, e := span.Check(rootOf(great), 4097, everything(), itemsOf(great, everything())); e != api.ErrArg || len(got) != 0 {
		t.Errorf("4097: %d, %d", len(got), e)
	}
}

// P16.2: of none no items, and the root of none, whatever is asked for.
func TestCheckOfNone(t *testing.T) {
	none := noneOf()
	for _, q := range queriesOf(3) {
		wantTaken(t, nil, none, 0, q, nil)
		wantTaken(t, nil, none, 0, q, []api.Item{})
		wantTaken(t, nil, tree.None(), 0, q, span.Ask(nil, q))
		for _, root := range append(changesOf(none), api.Node{}, leafOf(api.Hash{}, api.Brief{}), rootOf(eventsOf(1)), rootOf(eventsOf(2))) {
			wantRefused(t, "another root", root, 0, q, nil)
		}
		for _, x := range []api.Item{{}, {Kind: 1, H: none.H, B: none.B}, {Kind: 1}, {Kind: 2}, {Kind: 3}, {Kind: -1}, itemsOf(eventsOf(1), q)[0]} {
			wantRefused(t, "an item", none, 0, q, []api.Item{x})
			wantRefused(t, "an item", api.Node{H: x.H, B: x.B}, 0, q, []api.Item{x})
		}
		wantRefused(t, "no items", none, 1, q, nil)
		wantRefused(t, "no items", rootOf(eventsOf(1)), 1, q, nil)
		wantRefused(t, "no items", rootOf(eventsOf(4096)[:7]), 7, q, []api.Item{})
		wantRefused(t, "skipped", none, 1, q, []api.Item{{Kind: 0}})
	}
	// Skipped it may be, of one or of more: so many leaves aren't told.
	wantTaken(t, nil, none, 1, everything(), []api.Item{{Kind: 1, H: none.H}})
	wantTaken(t, nil, none, 4096, everything(), []api.Item{{Kind: 1, H: none.H}})
}

// someTrees goes through some trees, queries, and their items.
func someTrees(test func(l []api.Slot, root api.Node, q api.Query, items []api.Item)) {
	for _, many := range []int{1, 2, 3, 4, 5, 6, 7, 8, 9, 13, 16, 17} {
		l := eventsOf(many)
		root := rootOf(l)
		for i, q := range queriesOf(many) {
			if i < 12 || i%5 == many%5 {
				test(l, root, q, itemsOf(l, q))
			}
		}
	}
}

// P16.2: an item that is missing, at each place, or all of them behind a place, or ahead of it.
func TestMissing(t *testing.T) {
	someTrees(func(l []api.Slot, root api.Node, q api.Query, items []api.Item) {
		for i := range items {
			wantRefused(t, "one is missing", root, len(l), q, slices.Delete(slices.Clone(items), i, i+1))
			wantRefused(t, "those behind are missing", root, len(l), q, items[:i])
			if i > 0 {
				wantRefused(t, "those ahead are missing", root, len(l), q, items[i:])
			}
		}
	})
}

// P16.2: an item that is too many, at each place and behind them all.
func TestTooMany(t *testing.T) {
	someTrees(func(l []api.Slot, root api.Node, q api.Query, items []api.Item) {
		none := noneOf()
		more := []api.Item{{}, {Kind: 1}, {Kind: 2}, {Kind: 3}, {Kind: -1}, {Kind: 4}, {Kind: 1, H: none.H, B: none.B}, {Kind: 1, H: root.H, B: root.B}, items[0], items[len(items)-1], items[len(items)/2]}
		for i := range len(items) + 1 {
			for _, x := range more {
				wantRefused(t, "one too many", root, len(l), q, slices.Insert(slices.Clone(items), i, x))
			}
		}
		wantRefused(t, "twice", root, len(l), q, slices.Concat(items, items))
	})
}

// P16.2: two unlike items exchanged.
func TestExchanged(t *testing.T) {
	someTrees(func(l []api.Slot, root api.Node, q api.Query, items []api.Item) {
		for i := range items {
			for k := range i {
				if items[i] == items[k] {
					continue
				}
				other := slices.Clone(items)
				other[i], other[k] = other[k], other[i]
				wantRefused(t, "exchanged", root, len(l), q, other)
			}
		}
		if other := slices.Clone(items); len(items) > 1 {
			slices.Reverse(other)
			wantRefused(t, "back to front", root, len(l), q, other)
		}
	})
}

// P16.2: one leaf more or less, and any other number, with items that tell every leaf.
func TestOtherMany(t *testing.T) {
	for many := 1; many < 40; many++ {
		l := eventsOf(many)
		root, items := rootOf(l), itemsOf(l, everything())
		for _, n := range []int{0, 1, 2, many - 1, many + 1, many / 2, 2 * many, many + 8, 4095, 4096} {
			if n != many {
				wantRefused(t, "of another number", root, n, everything(), items)
			}
		}
	}
	l := eventsOf(4096)
	wantRefused(t, "of one less", rootOf(l), 4095, everything(), itemsOf(l, everything()))
	wantRefused(t, "of one more", rootOf(l[:4095]), 4096, everything(), itemsOf(l[:4095], everything()))
}

// P16.2: how many leaves a skipped node has isn't told: where the others fit, the places behind it are what the number says.
func TestOtherManySkipped(t *testing.T) {
	l := eventsOf(6)
	root, q := rootOf(l), between(4, 5)
	items := itemsOf(l, q)
	for n := range 70 {
		if n != 4 && n != 6 && n != 10 && n != 18 && n != 34 && n != 66 {
			wantRefused(t, "of another number", root, n, q, items)
			continue
		}
		want := entriesOf(l, q)
		want[0].At, want[1].At = n-2, n-1
		wantTaken(t, want, root, n, q, items)
	}
}

// P16.2: each item with another kind, text, hash, or number of its brief: also such as Ask would leave 0.
func TestChangedItems(t *testing.T) {
	someTrees(func(l []api.Slot, root api.Node, q api.Query, items []api.Item) {
		for i, x := range items {
			for _, y := range changedItems(x) {
				other := slices.Clone(items)
				other[i] = y
				wantRefused(t, "changed", root, len(l), q, other)
			}
		}
	})
}

// P16.2: values that Ask would leave 0, by hand, at a root that is right.
func TestValuesLeftNought(t *testing.T) {
	l := eventsOf(2)
	root, h := rootOf(l), api.Hash{31: 1}
	live, gone := api.Item{Kind: 2, S: l[0].S, B: l[0].B}, api.Item{Kind: 3, H: l[1].H, B: l[1].B}
	wantTaken(t, entriesOf(l, everything()), root, 2, everything(), []api.Item{{}, live, gone})
	for _, x := range []api.Item{{S: "a"}, {H: h}, {B: api.Brief{First: 1}}, {B: api.Brief{Last: 1}}, {B: api.Brief{Grave: 1}}, {B: api.Brief{From: 1}}, {B: api.Brief{Many: 1}}, {B: api.Brief{Keep: true}}, {H: root.H, B: root.B}, {H: root.H}, {B: root.B}} {
		wantRefused(t, "IOpen", root, 2, everything(), []api.Item{x, live, gone})
	}
	for _, x := range []api.Item{{Kind: 2, S: live.S, H: h, B: live.B}, {Kind: 2, S: live.S, H: l[0].H, B: live.B}} {
		wantRefused(t, "ILive with a hash", root, 2, everything(), []api.Item{{}, x, gone})
	}
	for _, s := range []string{"a", "\x00", "e\x00\x01"} {
		wantRefused(t, "IGone with a text", root, 2, everything(), []api.Item{{}, live, {Kind: 3, S: s, H: gone.H, B: gone.B}})
		wantRefused(t, "ISkip with a text", root, 2, api.Query{}, []api.Item{{Kind: 1, S: s, H: root.H, B: root.B}})
		wantRefused(t, "ISkip with a text", root, 2, between(0, 0), []api.Item{{}, live, {Kind: 1, S: s, H: leafOf(gone.H, gone.B).H, B: gone.B}})
	}
	// The text that it had.
	if s := "e\x00\x01"; dataOf(s) != gone.H {
		t.Error("another text")
	}
}

// P16.2: kinds that there aren't, though all else is right.
func TestKinds(t *testing.T) {
	l := eventsOf(5)
	root, items := rootOf(l), itemsOf(l, between(1, 3))
	for _, kind := range []int{-1, -2, -4, 4, 5, 7, 255, 256, 257, 258, 259, -255, 1 << 32, 1<<32 + 1, 1<<32 + 2, 1<<32 + 3, math.MinInt, math.MinInt + 1, math.MinInt + 2, math.MaxInt, math.MaxInt - 1} {
		for i := range items {
			other := slices.Clone(items)
			other[i].Kind = kind
			wantRefused(t, "a wrong kind", root, 5, between(1, 3), other)
		}
		one := leafOf(l[0].H, l[0].B)
		wantRefused(t, "a wrong kind", one, 1, everything(), []api.Item{{Kind: kind, S: l[0].S, B: l[0].B}})
		wantRefused(t, "a wrong kind", one, 1, everything(), []api.Item{{Kind: kind, H: l[0].H, B: l[0].B}})
		wantRefused(t, "a wrong kind", one, 1, api.Query{}, []api.Item{{Kind: kind, H: one.H, B: one.B}})
		wantRefused(t, "a wrong kind", one, 1, everything(), []api.Item{{Kind: kind}})
	}
}

// P16.2: IOpen at a leaf, ILive and IGone above more than one leaf, though the root is that of the items.
func TestKindsOutOfPlace(t *testing.T) {
	l := eventsOf(4)
	q := everything()
	item := func(i int) api.Item { return itemsOf(l[i:i+1], q)[0] }
	node := func(i int) api.Node { return leafOf(l[i].H, l[i].B) }
	// Two below the only leaf, below the first of two, below the last of two.
	wantRefused(t, "IOpen at a leaf", joinOf(node(0), node(1)), 1, q, []api.Item{{}, item(0), item(1)})
	wantRefused(t, "IOpen at a leaf", joinOf(joinOf(node(0), node(1)), node(2)), 2, q, []api.Item{{}, {}, item(0), item(1), item(2)})
	wantRefused(t, "IOpen at a leaf", joinOf(node(0), joinOf(node(1), node(2))), 2, q, []api.Item{{}, item(0), {}, item(1), item(2)})
	wantRefused(t, "IOpen at a leaf", noneOf(), 1, q, []api.Item{{}})
	wantRefused(t, "IOpen at a leaf", leafOf(dataOf(""), api.Brief{}), 1, q, []api.Item{{}})
	for i := range 2 {
		for n := 2; n < 70; n++ {
			wantRefused(t, "an event above more", node(i), n, q, []api.Item{item(i)})
		}
	}
}

// P16.2: items that tell no node, where the root is one above a node of all 0.
func TestNoNode(t *testing.T) {
	l := eventsOf(2)
	q := everything()
	one, n := itemsOf(l[:1], q)[0], leafOf(l[0].H, l[0].B)
	for _, x := range []api.Item{{}, {Kind: 2}, {Kind: 3}, {Kind: 4}, {Kind: -1}, {Kind: 1, S: "s"}} {
		wantRefused(t, "none on the left side", joinOf(api.Node{}, n), 2, q, []api.Item{{}, x, one})
		wantRefused(t, "none on the right side", joinOf(n, api.Node{}), 2, q, []api.Item{{}, one, x})
		wantRefused(t, "none on the right side", joinOf(n, api.Node{}), 2, q, []api.Item{{}, one})
		wantRefused(t, "none", api.Node{}, 1, q, []api.Item{x})
		wantRefused(t, "none on both sides", joinOf(api.Node{}, api.Node{}), 2, q, []api.Item{{}, x, x})
	}
	wantTaken(t, entriesOf(l[:1], q), joinOf(n, api.Node{}), 2, q, []api.Item{{}, one, {Kind: 1}})
}

// P16.2: a leaf whose brief's Many isn't 1, at a root that is right: it isn't taken, unless it's skipped.
func TestManyOfLeaves(t *testing.T) {
	l := eventsOf(5)
	for i := range l {
		for _, many := range []uint64{0, 2, 3, 4096, 1 << 32, 1<<32 + 1, 1 << 63, 1<<63 + 1} {
			other := slices.Clone(l)
			other[i].B.Many = many
			root := rootOf(other)
			for _, q := range []api.Query{everything(), between(i, i), between(i, 4), between(0, i)} {
				for _, gone := range []bool{false, true} {
					other[i].Gone = gone
					told := laid(other, 0, func(s spot, b api.Brief) bool { return !mayOf(q, b) && s != (spot{i, 1}) })
					items := itemsOf(other, q)
					if !slices.Equal(told, items) || many > 0 {
						wantRefused(t, "a leaf that isn't of one", root, 5, q, told)
					}
					// Ask skips one of which there are none.
					if many == 0 {
						wantTaken(t, entriesOf(other, q), root, 5, q, items)
					}
				}
			}
			// It is skipped: that it isn't of one is nothing.
			for _, q := range []api.Query{between(i+1, i+1), between(i-1, i-1), between(0, i-1), between(i+1, 4)} {
				wantTaken(t, entriesOf(other, q), root, 5, q, itemsOf(other, q))
			}
		}
	}
}

// P16.2: two leaves whose Many goes round to 0 together: nothing of them is asked for, so they are skipped, and may not be told.
func TestManyGoneRound(t *testing.T) {
	l := eventsOf(3)
	l[0].B.Many = math.MaxUint64
	root, q := rootOf(l), everything()
	if root.B.Many != 1 || !slices.Equal(itemsOf(l, q), span.Ask(l, q)) {
		t.Fatal(root.B.Many)
	}
	wantTaken(t, []api.Entry{{At: 2, S: l[2].S, B: l[2].B}}, root, 3, q, itemsOf(l, q))
	wantRefused(t, "told", root, 3, q, laid(l, 0, func(s spot, b api.Brief) bool { return false }))
	wantRefused(t, "told", root, 3, q, laid(l, 0, func(s spot, b api.Brief) bool { return s == (spot{0, 1}) }))
}

// P16.2: a single leaf of any brief: what is asked for, and of Many 1, is taken as it is; so is what is skipped.
func TestSingleLeaf(t *testing.T) {
	r := rand.New(rand.NewSource(11))
	taken := 0
	for range 4000 {
		x, q := anySlot(r), anyQuery(r)
		x.H = dataOf(x.S)
		if r.Intn(3) == 0 {
			q = everything()
		}
		root, items := rootOf([]api.Slot{x}), itemsOf([]api.Slot{x}, q)
		if asked := mayOf(q, x.B); asked && x.B.Many != 1 {
			wantRefused(t, "not of one", root, 1, q, items)
		} else {
			wantTaken(t, entriesOf([]api.Slot{x}, q), root, 1, q, items)
			taken++
		}
		for _, y := range []api.Item{{}, {Kind: 1, H: root.H, B: root.B}, {Kind: 2, S: x.S, B: x.B}, {Kind: 3, H: x.H, B: x.B}} {
			want, e := checkOf(root, 1, q, []api.Item{y})
			if got, is := span.Check(root, 1, q, []api.Item{y}); is != e || !slices.Equal(got, want) {
				t.Errorf("%+v, %+v: %+v, %d; not %+v, %d", y, q, got, is, want, e)
			}
		}
	}
	if taken < 1000 {
		t.Errorf("%d taken alone", taken)
	}
}

// P16.2: an event that was deleted may be told with the text that it had, and one that wasn't as if it were: each is the same leaf.
func TestGoneOrLive(t *testing.T) {
	for many := 1; many < 12; many++ {
		l := eventsOf(many)
		root := rootOf(l)
		for i := range l {
			other := slices.Clone(l)
			s := strings.Repeat("e", i%7) + string([]byte{0, byte(i)})
			other[i].S, other[i].Gone = s, !l[i].Gone
			wantTaken(t, entriesOf(other, everything()), root, many, everything(), itemsOf(other, everything()))
		}
	}
}

// P16.2: a node that is skipped though it is asked for, or isn't skipped though it isn't, at a root that is right: inner ones and leaves.
func TestSkippedOrNot(t *testing.T) {
	skips, opens := 0, 0
	for _, many := range []int{1, 2, 3, 5, 8, 11} {
		l := eventsOf(many)
		root := rootOf(l)
		for _, q := range queriesOf(many) {
			right := itemsOf(l, q)
			for _, at := range spotsOf(0, many) {
				// All nodes as they have to be, but for this one.
				items := laid(l, 0, func(s spot, b api.Brief) bool { return mayOf(q, b) == (s == at) })
				if slices.Equal(items, right) {
					continue // another one that is skipped hides it
				}
				wantRefused(t, "skipped or not", root, many, q, items)
				if len(items) < len(right) || len(items) == len(right) && strings.Count(kindsIn(items), "s") > strings.Count(kindsIn(right), "s") {
					skips++
				} else {
					opens++
				}
			}
		}
	}
	if skips < 300 || opens < 300 {
		t.Errorf("%d and %d alone", skips, opens)
	}
}

// P16.2: all of it told, and nothing of it: refused, unless all is asked for, or nothing is.
func TestAllOrNothing(t *testing.T) {
	for many := 1; many < 20; many++ {
		l := eventsOf(many)
		root := rootOf(l)
		for _, q := range queriesOf(many) {
			all := laid(l, 0, func(s spot, b api.Brief) bool { return false })
			none := laid(l, 0, func(s spot, b api.Brief) bool { return true })
			for _, items := range [][]api.Item{all, none} {
				if slices.Equal(items, itemsOf(l, q)) {
					wantTaken(t, entriesOf(l, q), root, many, q, items)
				} else {
					wantRefused(t, "all or nothing", root, many, q, items)
				}
			}
		}
	}
}

// P16.2: another root: of another hash, of another brief, of none of both.
func TestOtherRoot(t *testing.T) {
	someTrees(func(l []api.Slot, root api.Node, q api.Query, items []api.Item) {
		for _, other := range append(changesOf(root), api.Node{}, noneOf(), api.Node{H: root.H}, api.Node{B: root.B}, rootOf(eventsOf(len(l)+1))) {
			wantRefused(t, "another root", other, len(l), q, items)
		}
	})
}

// P16.2: items of another query are taken just if the same nodes are asked for.
func TestOtherQuery(t *testing.T) {
	taken, refused := 0, 0
	for _, many := range []int{1, 2, 5, 8, 13} {
		l := eventsOf(many)
		root := rootOf(l)
		for _, q := range queriesOf(many) {
			items := itemsOf(l, q)
			for _, other := range queriesOf(many) {
				if slices.Equal(items, itemsOf(l, other)) {
					wantTaken(t, entriesOf(l, other), root, many, other, items)
					taken++
				} else {
					wantRefused(t, "of another query", root, many, other, items)
					refused++
				}
			}
		}
	}
	if taken < 500 || refused < 500 {
		t.Errorf("%d and %d alone", taken, refused)
	}
}

// anyItems are items of so many leaves, and the node that they come to; most are right, some aren't.
func anyItems(r *rand.Rand, q api.Query, size int) ([]api.Item, api.Node) {
	var items []api.Item
	var n api.Node
	switch x := anySlot(r); {
	case size > 1 && r.Intn(60) > 0:
		left, one := anyItems(r, q, halfOf(size))
		right, other := anyItems(r, q, size-halfOf(size))
		items, n = slices.Concat([]api.Item{{}}, left, right), joinOf(one, other)
	case r.Intn(60) == 0:
		left, one := anyItems(r, q, 1)
		right, other := anyItems(r, q, 1)
		items, n = slices.Concat([]api.Item{{}}, left, right), joinOf(one, other)
	case x.Gone:
		items, n = []api.Item{{Kind: 3, H: x.H, B: x.B}}, leafOf(x.H, x.B)
	default:
		items, n = []api.Item{{Kind: 2, S: x.S, B: x.B}}, leafOf(dataOf(x.S), x.B)
	}
	if mayOf(q, n.B) == (r.Intn(60) == 0) {
		items = []api.Item{{Kind: 1, H: n.H, B: n.B}}
	}
	if k := r.Intn(len(items)); r.Intn(60) == 0 {
		all := changedItems(items[k])
		items[k] = all[r.Intn(len(all))]
	}
	return items, n
}

// P16.2: any items, held against the document's rules one by one.
func TestAnyItems(t *testing.T) {
	r := rand.New(rand.NewSource(12))
	taken, refused := 0, 0
	for range 30000 {
		q, n := anyQuery(r), r.Intn(10)
		root, items := noneOf(), []api.Item(nil)
		if n > 0 {
			items, root = anyItems(r, q, n)
		}
		if r.Intn(12) == 0 {
			n += r.Intn(3) - 1
		}
		want, e := checkOf(root, n, q, items)
		got, is := span.Check(root, n, q, items)
		if is != e || !slices.Equal(got, want) {
			t.Fatalf("%d, %+v, %+v: %+v, %d; not %+v, %d", n, q, items, got, is, want, e)
		}
		if e == api.OK {
			taken++
		} else {
			refused++
		}
	}
	if taken < 3000 || refused < 3000 {
		t.Errorf("%d and %d alone", taken, refused)
	}
}

// P16.2: very many items end as few do.
func TestVeryManyItems(t *testing.T) {
	l := eventsOf(4096)
	root := rootOf(l)
	open, live := make([]api.Item, 1<<17), make([]api.Item, 1<<17)
	for i := range live {
		live[i] = api.Item{Kind: 2, B: l[0].B}
	}
	for _, n := range []int{0, 1, 4096} {
		wantRefused(t, "very many", root, n, everything(), open)
		wantRefused(t, "very many", root, n, everything(), live)
		wantRefused(t, "very many", root, n, everything(), append(itemsOf(l[:min(n, 64)], everything()), live...))
	}
}

// P16.2: no list that is handed in is written into, neither within its length nor behind it, and what was told stays as it was told.
func TestCheckWritesNothing(t *testing.T) {
	r := rand.New(rand.NewSource(13))
	for range 300 {
		l, q := oneSlots(r, 1+r.Intn(12)), anyQuery(r)
		if r.Intn(3) > 0 {
			q = everything()
		}
		root, items := rootOf(l), itemsOf(l, q)
		room := append(slices.Clone(items), items...)
		was := slices.Clone(room)
		got, e := span.Check(root, len(l), q, room[:len(items)])
		again, _ := span.Check(root, len(l), q, room[:len(items)])
		if e != api.OK || !slices.Equal(room, was) {
			t.Fatalf("%s: changed, %d", kindsIn(items), e)
		}
		span.Check(root, len(l), q, room)
		span.Clash(root, len(l), q, room[:len(items)], room[:len(items)])
		if !slices.Equal(room, was) {
			t.Fatalf("%s: changed", kindsIn(items))
		}
		for i := range room {
			room[i] = api.Item{Kind: 9, S: "other"}
		}
		for i := range again {
			again[i] = api.Entry{At: -1}
		}
		if !slices.Equal(got, entriesOf(l, q)) {
			t.Fatalf("%s: what was told is changed", kindsIn(items))
		}
	}
}
