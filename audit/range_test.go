package audit_test

import (
	"fmt"
	"math"
	"slices"
	"testing"

	"tabulary/api"
	"tabulary/audit"
)

// queries are queries for all of the events of mails, for some by times, by graves, from whom, and for none.
func queries(n int) []api.Query {
	between := func(from, to int) api.Query {
		return api.Query{First: mailOf(0, 0, from, "", false).b.First, Last: mailOf(0, 0, to, "", false).b.First, Grave: 255, From: 1<<24 - 1}
	}
	out := []api.Query{everything(), {}, between(0, 0), between(0, n-1), between(n-1, n-1), between(n/2, n-1), between(0, n/2), between(n/3, n/3+1), between(n, n+9), between(-9, -1), between(n-1, 0)}
	for bit := range 9 {
		by, from, both := everything(), everything(), between(1, n-2)
		by.Grave, from.From = 1<<bit, 1<<(2*bit)
		both.Grave, both.From = 5<<bit, 0x111111<<bit
		out = append(out, by, from, both)
	}
	none := everything()
	none.Grave, none.From = ^uint32(255), ^uint32(1<<24-1)
	all := api.Query{First: math.MinInt64, Last: math.MaxInt64, Grave: math.MaxUint32, From: math.MaxUint32}
	return append(out, none, all, api.Query{First: math.MaxInt64, Last: math.MinInt64, Grave: 255, From: 255})
}

// logsOf are events of so many messages: as they are, with some deleted, with all deleted that may be, and all of them where none need be kept.
func logsOf(n int) map[string][]api.Slot {
	var free []mail
	for _, m := range mails(n) {
		m.b.Keep = false
		free = append(free, m)
	}
	all := func(int) bool { return true }
	return map[string][]api.Slot{
		"as they are":  logOf(n),
		"some deleted": dropped(logOf(n), func(i int) bool { return i%3 > 0 }),
		"most deleted": dropped(logOf(n), all),
		"all deleted":  dropped(slotsOf(free), all),
	}
}

// P19.3: the events that are asked for, in order, each with its text, or Gone.
func TestRange(t *testing.T) {
	for n := range 22 {
		for what, l := range logsOf(n) {
			a := knowing(stateOf(l))
			for _, q := range queries(n) {
				wantEntries(t, fmt.Sprintf("%d events, %s, %+v", n, what, q), a, q, itemsOf(l, q), entriesOf(l, q))
			}
		}
	}
	l := dropped(logOf(4096), func(i int) bool { return i%7 == 2 })
	q := everything()
	wantEntries(t, "4096 events", knowing(stateOf(l)), q, itemsOf(l, q), entriesOf(l, q))
}

// P19.3: what is found, by hand.
func TestRangeByHand(t *testing.T) {
	l := dropped(logOf(4), func(i int) bool { return i == 2 })
	q := everything()
	q.Grave = 1<<1 | 1<<2
	items := []api.Item{
		{}, {}, {Kind: 1, H: leafOf(l[0]).H, B: l[0].B}, {Kind: 2, S: l[1].S, B: l[1].B},
		{}, {Kind: 3, H: l[2].H, B: l[2].B}, {Kind: 1, H: leafOf(l[3]).H, B: l[3].B},
	}
	want := []api.Entry{{At: 1, S: "<9>1 2024-02-29T00:00:01.250000Z h a p i - event 1", B: l[1].B}, {At: 2, Gone: true, B: l[2].B}}
	wantEntries(t, "by hand", knowing(stateOf(l)), q, items, want)
}

// P19.3: ErrNone goes ahead of all others.
func TestRangeOfNoState(t *testing.T) {
	l := logOf(5)
	left := fresh(ourKeys())
	left.S = stateOf(l)
	for _, a := range []api.Auditor{fresh(ourKeys()), left, {}, {S: api.State{N: -1}}} {
		for _, items := range [][]api.Item{itemsOf(l, everything()), nil, {{}}, {{Kind: 9}}, itemsOf(unfit(5, 2), everything())} {
			wantNoEntries(t, "no state", api.ErrNone, a, everything(), items)
		}
	}
}

// unfit are events one of which doesn't fit its brief: that of another time.
func unfit(n, i int) []api.Slot {
	l := mails(n)
	l[i].b.First--
	return slotsOf(l)
}

// P19.3: chapter 16's error goes ahead of ErrForm: of items that prove nothing, and of a number that may not be.
func TestRangeUnproved(t *testing.T) {
	q, other := everything(), everything()
	other.Grave = 1 << 2
	for _, n := range []int{1, 2, 5, 8} {
		for what, l := range map[string][]api.Slot{"fit": logOf(n), "unfit": unfit(n, n-1)} {
			a, items := knowing(stateOf(l)), itemsOf(l, q)
			for _, wrong := range slices.Concat(less(items), more(items, api.Item{}), more(items, items[len(items)-1])) {
				wantNoEntries(t, fmt.Sprintf("%s, %d items", what, len(wrong)), api.ErrProof, a, q, wrong)
			}
			for i, x := range items {
				for _, one := range []api.Item{{Kind: (x.Kind + 1) % 4, S: x.S, H: x.H, B: x.B}, {Kind: x.Kind + 4, S: x.S, H: x.H, B: x.B}, {Kind: x.Kind, S: x.S + ".", H: x.H, B: x.B}, {Kind: x.Kind, S: x.S, H: anyHash(1), B: x.B}, {Kind: x.Kind, S: x.S, H: x.H, B: anyNode(1).B}} {
					wantNoEntries(t, fmt.Sprintf("%s, item %d", what, i), api.ErrProof, a, q, slices.Concat(items[:i], []api.Item{one}, items[i+1:]))
				}
			}
			if n > 2 {
				wantNoEntries(t, what+", of another query", api.ErrProof, a, q, itemsOf(l, other))
				wantNoEntries(t, what+", to another query", api.ErrProof, a, other, items)
			}
			wantNoEntries(t, what+", of another number", api.ErrProof, a, q, itemsOf(logOf(n+1), q))
			wantNoEntries(t, what+", of another log", api.ErrProof, a, q, itemsOf(otherLog(n, 0), q))
			for _, root := range changedNodes(a.S.Root) {
				wantNoEntries(t, what+", of another root", api.ErrProof, knowing(with(a.S, func(s *api.State) { s.Root = root })), q, items)
			}
			for _, many := range append(farNumbers(), -1, 4097) {
				if many != n {
					wantNoEntries(t, fmt.Sprintf("%s, N %d", what, many), api.ErrArg, knowing(with(a.S, func(s *api.State) { s.N = many })), q, items)
				}
			}
			for _, many := range []int{0, n + 1, 4096} {
				wantNoEntries(t, fmt.Sprintf("%s, N %d", what, many), api.ErrProof, knowing(with(a.S, func(s *api.State) { s.N = many })), q, items)
			}
		}
	}
}

// misfits are events of a place that don't fit their briefs: no messages, and messages of another brief, that is of one event and is asked for by everything.
func misfits(m mail) []api.Slot {
	var out []api.Slot
	for _, s := range append(noMessages(), m.s+"\xff", m.s[1:]) {
		out = append(out, mail{s, m.b}.slot())
	}
	for _, b := range changesOf(m.b) {
		if b.Many == 1 && isAsked(everything(), b) {
			out = append(out, mail{m.s, b}.slot())
		}
	}
	return append(out, mail{mailOf(6, 6, 6, "x", false).s, m.b}.slot())
}

// P19.3: ErrForm of one that isn't Gone and doesn't fit, wherever it stands, in a tree that is made of it.
func TestRangeThatFitsNot(t *testing.T) {
	q := everything()
	for _, n := range []int{1, 2, 5, 9} {
		l := mails(n)
		slots := slotsOf(l)
		for _, i := range []int{0, n / 2, n - 1} {
			for _, x := range misfits(l[i]) {
				what := fmt.Sprintf("place %d of %d: %q, %+v", i, n, x.S, x.B)
				made := slices.Concat(slots[:i], []api.Slot{x}, slots[i+1:])
				wantNoEntries(t, what, api.ErrForm, knowing(stateOf(made)), q, itemsOf(made, q))
			}
		}
	}
}

// P19.3: one that is Gone has no text that had to fit, and one that isn't asked for is no entry.
func TestRangeBesideMisfits(t *testing.T) {
	q := everything()
	l := mails(9)
	slots := slotsOf(l)
	for _, i := range []int{1, 4, 8} {
		for _, x := range misfits(l[i]) {
			what := fmt.Sprintf("place %d: %q, %+v", i, x.S, x.B)
			gone := slices.Concat(slots[:i], []api.Slot{{Gone: true, H: x.H, B: x.B}}, slots[i+1:])
			wantEntries(t, what+", Gone", knowing(stateOf(gone)), q, itemsOf(gone, q), entriesOf(gone, q))
			if x.B.Grave != l[i].b.Grave || x.B.From != l[i].b.From {
				continue
			}
			made, other := slices.Concat(slots[:i], []api.Slot{x}, slots[i+1:]), everything()
			other.Grave = ^l[i].b.Grave
			wantEntries(t, what+", not asked for", knowing(stateOf(made)), other, itemsOf(made, other), entriesOf(made, other))
		}
	}
}

// P19.3: one that is kept and one that isn't both fit.
func TestRangeOfKept(t *testing.T) {
	var l []api.Slot
	for _, m := range fitting()[:20] {
		kept := m
		kept.b.Keep = true
		l = append(l, m.slot(), kept.slot())
	}
	wantEntries(t, "kept and not", knowing(stateOf(l)), everything(), itemsOf(l, everything()), entriesOf(l, everything()))
}

// P19.3: items aren't written into, nor what is behind them; what is answered is nobody else's.
func TestRangeLeavesItems(t *testing.T) {
	l := dropped(logOf(9), func(i int) bool { return i == 3 })
	a, q := knowing(stateOf(l)), everything()
	items, same := behind(itemsOf(l, q), api.Item{Kind: 9})
	got, _ := audit.Range(a, q, items)
	spoil(got)
	again, e := audit.Range(a, q, items)
	other, _ := audit.Range(a, q, items)
	spoil(other)
	if !same() {
		t.Error("written into")
	}
	spoil(items)
	if e != api.OK || !slices.Equal(again, entriesOf(l, q)) {
		t.Errorf("%+v, %d", again, e)
	}
	bad := unfit(9, 8)
	items, same = behind(itemsOf(bad, q), api.Item{Kind: 9})
	wantNoEntries(t, "refused", api.ErrForm, knowing(stateOf(bad)), q, items)
	if !same() {
		t.Error("written into")
	}
}
