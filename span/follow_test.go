package span_test

import (
	"math/rand"
	"slices"
	"testing"

	"tabulary/api"
	"tabulary/brief"
	"tabulary/span"
	"tabulary/tree"
)

// A log are events, and their slots.
type log struct {
	events []api.Event
	l      []api.Slot
}

// anyLog is a log of so many events, some of which are deleted.
func anyLog(r *rand.Rand, many int) log {
	var x log
	for range many {
		e := api.Event{Grave: r.Intn(8), From: r.Intn(24), At: int64(r.Uint64())}
		if r.Intn(2) == 0 {
			e.At = int64(r.Intn(20)) // so that some have one time
		}
		slot := span.Slot(anyText(r), brief.Of(e, r.Intn(4) == 0))
		if r.Intn(4) == 0 {
			slot = span.Drop(slot)
		}
		x.events, x.l = append(x.events, e), append(x.l, slot)
	}
	return x
}

// queryOf is a query of a log: of some bits, between the times of two of its events.
func queryOf(r *rand.Rand, x log) api.Query {
	q := everything()
	if many := len(x.events); many > 0 && r.Intn(3) > 0 {
		q.First, q.Last = x.events[r.Intn(many)].At, x.events[r.Intn(many)].At
		if q.First > q.Last && r.Intn(5) > 0 {
			q.First, q.Last = q.Last, q.First
		}
	}
	if r.Intn(2) == 0 {
		q.Grave = uint32(r.Intn(256))
	}
	if r.Intn(2) == 0 {
		q.From = uint32(r.Intn(1 << 24))
	}
	return q
}

// P16.4: what is asked is checked against the root, and tells just the events that are asked for, in order.
func TestAskedIsTaken(t *testing.T) {
	r := rand.New(rand.NewSource(31))
	told := 0
	for range 1500 {
		x := anyLog(r, r.Intn(20))
		q := queryOf(r, x)
		var want []api.Entry
		for i, e := range x.events {
			if brief.Match(q, e) {
				want = append(want, api.Entry{At: i, S: x.l[i].S, Gone: x.l[i].Gone, B: x.l[i].B})
			}
		}
		wantTaken(t, want, tree.Root(span.Nodes(x.l)), len(x.l), q, span.Ask(x.l, q))
		told += len(want)
	}
	if told < 3000 {
		t.Errorf("%d told alone", told)
	}
}

// P16.4: so it is of a log as great as one may be.
func TestAskedOfGreatLogs(t *testing.T) {
	r := rand.New(rand.NewSource(32))
	for _, many := range []int{100, 1025, 4095, 4096} {
		x := anyLog(r, many)
		root := tree.Root(span.Nodes(x.l))
		for range 3 {
			q := queryOf(r, x)
			wantTaken(t, entriesOf(x.l, q), root, many, q, span.Ask(x.l, q))
		}
	}
}

// P16.4: what was deleted leaves the root, and each answer of it is taken, ahead of it and behind it; they tell the same, but that it is Gone.
func TestAskedBehindDrop(t *testing.T) {
	r := rand.New(rand.NewSource(33))
	for range 400 {
		x := anyLog(r, 1+r.Intn(16))
		root, q := tree.Root(span.Nodes(x.l)), queryOf(r, x)
		before := span.Ask(x.l, q)
		i := r.Intn(len(x.l))
		l := slices.Clone(x.l)
		l[i] = span.Drop(l[i])
		if tree.Root(span.Nodes(l)) != root {
			t.Fatalf("%d of %d: another root", i, len(l))
		}
		after := span.Ask(l, q)
		wantTaken(t, entriesOf(x.l, q), root, len(l), q, before)
		wantTaken(t, entriesOf(l, q), root, len(l), q, after)
		wantAlike(t, entriesOf(x.l, q), entriesOf(l, q))
		if kindsIn(before) != kindsIn(after) && !brief.Match(q, x.events[i]) {
			t.Errorf("%s: %s", kindsIn(before), kindsIn(after))
		}
		for _, p := range [][2][]api.Item{{before, after}, {after, before}} {
			if texts, is := span.Clash(root, len(l), q, p[0], p[1]); len(texts) != 0 || is {
				t.Errorf("%d of %d: %q, %v", i, len(l), texts, is)
			}
		}
	}
}

// wantAlike fails the test, unless two rows of entries tell the same, but for what was deleted.
func wantAlike(t *testing.T, a, b []api.Entry) {
	t.Helper()
	if len(a) != len(b) {
		t.Fatalf("%d and %d", len(a), len(b))
	}
	for i, x := range a {
		y := b[i]
		if x.At != y.At || x.B != y.B || x.S != y.S && !x.Gone && !y.Gone {
			t.Errorf("%+v, %+v", x, y)
		}
	}
}

// lied is an answer that isn't quite the one that is asked for: some items changed, left out, put in, put elsewhere, or of another log or query.
func lied(r *rand.Rand, x log, q api.Query) []api.Item {
	l := slices.Clone(x.l)
	switch i := r.Intn(len(l)); r.Intn(6) {
	case 0:
		l[i] = span.Drop(l[i])
	case 1:
		l[i] = span.Slot("a lie", l[i].B)
	case 2:
		l = slices.Delete(l, i, i+1)
	case 3:
		l[i].B.Keep = !l[i].B.Keep
	case 4:
		q = queryOf(r, x)
	}
	items := span.Ask(l, q)
	for range r.Intn(2) {
		if len(items) == 0 {
			break
		}
		i, k := r.Intn(len(items)), r.Intn(len(items))
		switch r.Intn(3) {
		case 0:
			all := changedItems(items[i])
			items[i] = all[r.Intn(len(all))]
		case 1:
			items[i], items[k] = items[k], items[i]
		default:
			items = slices.Insert(items, i, items[k])
		}
	}
	return items
}

// P16.4: what is taken, whoever made it, tells what the honest answer does, but for what was deleted.
func TestTakenIsHonest(t *testing.T) {
	r := rand.New(rand.NewSource(34))
	taken, refused := 0, 0
	for range 4000 {
		x := anyLog(r, 1+r.Intn(12))
		root, q := tree.Root(span.Nodes(x.l)), queryOf(r, x)
		items := lied(r, x, q)
		got, e := span.Check(root, len(x.l), q, items)
		if e != api.OK {
			wantRefused(t, "a lie", root, len(x.l), q, items)
			refused++
			continue
		}
		wantAlike(t, got, entriesOf(x.l, q))
		if texts, is := span.Clash(root, len(x.l), q, items, span.Ask(x.l, q)); len(texts) != 0 || is {
			t.Errorf("%q, %v", texts, is)
		}
		taken++
	}
	if taken < 800 || refused < 800 {
		t.Errorf("%d and %d alone", taken, refused)
	}
}

// P16.4: what is told hangs on the arguments alone.
func TestToldTwice(t *testing.T) {
	r := rand.New(rand.NewSource(35))
	for range 100 {
		x := anyLog(r, r.Intn(20))
		root, q := tree.Root(span.Nodes(x.l)), queryOf(r, x)
		one, other := span.Ask(x.l, q), span.Ask(slices.Clone(x.l), q)
		a, _ := span.Check(root, len(x.l), q, one)
		b, _ := span.Check(root, len(x.l), q, other)
		if !slices.Equal(one, other) || !slices.Equal(a, b) {
			t.Errorf("%s, %s", kindsIn(one), kindsIn(other))
		}
	}
}
