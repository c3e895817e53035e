package ledger_test

import (
	"fmt"
	"math/rand"
	"slices"
	"strings"
	"testing"

	"tabulary/api"
	"tabulary/ledger"
)

// P17.1: New: no events, one link, right; it is the same each time, and nobody's but the one's who asked.
func TestNew(t *testing.T) {
	l := ledger.New()
	if len(l.L) != 0 || !slices.Equal(l.Links, []api.Hash{hashOf(4)}) || !ledger.Right(l) {
		t.Errorf("%+v", l)
	}
	clear(l.Links)
	wantLog(t, "the next one", ledger.New(), api.OK, logOf(nil))
}

// P17.1: Right, of logs of any events, of some that were deleted, up to as many as may be.
func TestRight(t *testing.T) {
	r := rand.New(rand.NewSource(1))
	for _, many := range []int{0, 1, 2, 3, 4, 5, 7, 8, 9, 31, 32, 33, 200, 4095, 4096} {
		for _, l := range [][]api.Slot{eventsOf(many), thinned(eventsOf(many)), anyEvents(r, many)} {
			if !ledger.Right(logOf(l)) {
				t.Errorf("%d events: not right", many)
			}
		}
	}
	if !ledger.Right(api.Log{L: []api.Slot{}, Links: linksOf(nil)}) {
		t.Error("a list of none: not right")
	}
}

// P17.1: Right takes each brief that may be of one event, and one that was deleted if it needn't be kept.
func TestRightOfEachBrief(t *testing.T) {
	for _, b := range ones() {
		l := replaced(eventsOf(3), 1, liveOf("x", b))
		if !ledger.Right(logOf(l)) {
			t.Errorf("%+v: not right", b)
		}
		l[1] = goneOf(l[1])
		if ledger.Right(logOf(l)) == b.Keep {
			t.Errorf("%+v, deleted: %v", b, b.Keep)
		}
	}
}

// P17.1: Right takes one that was deleted, whose hash is that of no text that is known, if the links are those of it.
func TestRightOfUnknownHash(t *testing.T) {
	r := rand.New(rand.NewSource(2))
	for _, h := range []api.Hash{{}, {31: 1}, anyHash(r), anyHash(r)} {
		for i := range 4 {
			l := replaced(eventsOf(4), i, api.Slot{Gone: true, H: h, B: briefOfOne(1)})
			if !ledger.Right(logOf(l)) {
				t.Errorf("%x at %d: not right", h, i)
			}
		}
	}
}

// P17.1: Right refuses more events than may be, though all else is right.
func TestNotRightOfTooMany(t *testing.T) {
	for _, many := range []int{4097, 4098, 5000} {
		wantNotRight(t, fmt.Sprint(many), logOf(eventsOf(many)))
	}
}

// P17.1: Right refuses an event whose brief isn't right, or not of one, whether it was deleted or not.
func TestNotRightByBrief(t *testing.T) {
	for _, b := range slices.Concat(wrongBriefs(), notOnes()) {
		for i := range 4 {
			l := replaced(eventsOf(4), i, liveOf("x", b))
			wantNotRight(t, fmt.Sprintf("%+v at %d", b, i), logOf(l))
			l[i] = goneOf(l[i])
			wantNotRight(t, fmt.Sprintf("%+v at %d, deleted", b, i), logOf(l))
		}
	}
}

// P17.1: Right refuses an event whose hash isn't that of its text, though the links are those of it.
func TestNotRightByHash(t *testing.T) {
	l := eventsOf(5)
	for i, x := range l {
		for _, h := range append(changesOfHash(x.H), api.Hash{}, nodeOf(x).H, dataOf("another one")) {
			wantNotRight(t, fmt.Sprintf("%x at %d", h, i), logOf(replaced(l, i, api.Slot{S: x.S, H: h, B: x.B})))
		}
		for _, s := range []string{x.S + "e", x.S + "\x00", "another one"} {
			wantNotRight(t, fmt.Sprintf("%q at %d", s, i), logOf(replaced(l, i, api.Slot{S: s, H: x.H, B: x.B})))
		}
		if x.S != "" {
			wantNotRight(t, fmt.Sprintf("no text at %d", i), logOf(replaced(l, i, api.Slot{H: x.H, B: x.B})))
		}
	}
}

// P17.1: Right refuses an event that was deleted and has a text, or has to be kept.
func TestNotRightOfDeleted(t *testing.T) {
	l := eventsOf(5)
	for i, x := range l {
		if x.B.Keep {
			wantNotRight(t, fmt.Sprintf("kept and deleted at %d", i), logOf(replaced(l, i, goneOf(x))))
		}
		b := briefOfOne(1)
		for _, x := range []api.Slot{{S: "a", Gone: true, H: dataOf("a"), B: b}, {S: "\x00", Gone: true, H: dataOf("a"), B: b}, {S: "a", Gone: true, B: b}} {
			wantNotRight(t, fmt.Sprintf("%q, deleted at %d", x.S, i), logOf(replaced(l, i, x)))
		}
	}
}

// P17.1: Right refuses links that are missing, too many, changed or exchanged.
func TestNotRightByLinks(t *testing.T) {
	r := rand.New(rand.NewSource(3))
	for _, many := range []int{0, 1, 2, 5, 16} {
		l := logOf(thinned(eventsOf(many)))
		wantNotRight(t, "no links", api.Log{L: l.L})
		wantNotRight(t, "no links", api.Log{L: l.L, Links: []api.Hash{}})
		for i, h := range l.Links {
			without := slices.Delete(slices.Clone(l.Links), i, i+1)
			wantNotRight(t, fmt.Sprintf("%d of %d missing", i, many), api.Log{L: l.L, Links: without})
			twice := slices.Insert(slices.Clone(l.Links), i, h)
			wantNotRight(t, fmt.Sprintf("%d of %d twice", i, many), api.Log{L: l.L, Links: twice})
			for _, h := range append(changesOfHash(h), api.Hash{}) {
				wantNotRight(t, fmt.Sprintf("%d of %d changed", i, many), api.Log{L: l.L, Links: replaced(l.Links, i, h)})
			}
			for k := range i {
				wantNotRight(t, fmt.Sprintf("%d and %d of %d exchanged", k, i, many), api.Log{L: l.L, Links: exchanged(l.Links, k, i)})
			}
		}
		for _, h := range []api.Hash{{}, anyHash(r)} {
			wantNotRight(t, fmt.Sprintf("%d, and one more", many), api.Log{L: l.L, Links: append(slices.Clone(l.Links), h)})
		}
		more := linksOf(eventsOf(many + 1))
		wantNotRight(t, fmt.Sprintf("%d, and the next one", many), api.Log{L: l.L, Links: more})
	}
	wantNotRight(t, "nothing", api.Log{})
	wantNotRight(t, "a first link of 0", api.Log{Links: make([]api.Hash, 1)})
}

// P17.1: Right refuses events that aren't those of the links: of another log, more, fewer, exchanged, changed in a brief.
func TestNotRightByEvents(t *testing.T) {
	events := eventsOf(6)
	links := linksOf(events)
	other := replaced(events, 2, liveOf("another one", events[2].B))
	wantNotRight(t, "another one", api.Log{L: other, Links: links})
	wantNotRight(t, "fewer", api.Log{L: events[:5], Links: links})
	wantNotRight(t, "without the first one", api.Log{L: events[1:], Links: links})
	wantNotRight(t, "more", api.Log{L: eventsOf(7), Links: links})
	wantNotRight(t, "none", api.Log{Links: links})
	for i := range events {
		for k := range i {
			wantNotRight(t, fmt.Sprintf("%d and %d exchanged", k, i), api.Log{L: exchanged(events, k, i), Links: links})
		}
		for _, b := range changesOfBrief(events[i].B) {
			wantNotRight(t, fmt.Sprintf("%+v at %d", b, i), api.Log{L: replaced(events, i, liveOf(events[i].S, b)), Links: links})
		}
		gone := goneOf(events[i])
		gone.H[7] ^= 2
		wantNotRight(t, fmt.Sprintf("another hash at %d, deleted", i), api.Log{L: replaced(events, i, gone), Links: links})
	}
	for i := range 41 {
		if l := (api.Log{L: eventsOf(i), Links: linksOf(eventsOf(20))}); ledger.Right(l) != (i == 20) {
			t.Errorf("%d events, 21 links: %v", i, i != 20)
		}
	}
}

// P17.1: Add of the first event, of the second, of ones without a text, of long ones, of ones that have to be kept, of ones that are there already.
func TestAdd(t *testing.T) {
	l, events := ledger.New(), []api.Slot(nil)
	texts := []string{"one", "two", "", "two", strings.Repeat("long", 17000), "", "\x00", "\x00\x00", "one", strings.Repeat("\xff", 65536), strings.Repeat("a", 65537)}
	for _, s := range texts {
		for _, b := range ones() {
			was := l
			next, e := ledger.Add(l, s, b)
			events = append(events, liveOf(s, b))
			wantLog(t, fmt.Sprintf("%d bytes, %+v, the %dth", len(s), b, len(events)), next, e, logOf(events))
			if !isSame(l, was) {
				t.Error("the log ahead: changed")
			}
			l = next
		}
	}
}

// P17.1: Add to any logs, of some events that were deleted, too.
func TestAddToAny(t *testing.T) {
	r := rand.New(rand.NewSource(4))
	for many := range 140 {
		events := anyEvents(r, many)
		s, b := anyText(r), anyOne(r)
		got, e := ledger.Add(logOf(events), s, b)
		wantLog(t, fmt.Sprint(many), got, e, logOf(append(events, liveOf(s, b))))
	}
}

// P17.1: Add of the last event that may be; the next one is refused, and the log is as it was.
func TestAddTillFull(t *testing.T) {
	events := thinned(eventsOf(4097))
	l, e := ledger.Add(logOf(events[:4094]), events[4094].S, events[4094].B)
	wantLog(t, "the one ahead of the last one", l, e, logOf(eventsLast(events, 4095)))
	full, e := ledger.Add(l, "the last one", briefOfOne(5))
	want := logOf(append(eventsLast(events, 4095), liveOf("the last one", briefOfOne(5))))
	wantLog(t, "the last one", full, e, want)
	for _, b := range ones() {
		h := hold(full)
		got, e := ledger.Add(h.log, "one more", b)
		wantAsItWas(t, "a full log", got, e, api.ErrFull, want)
		h.wantUntouched(t, "a full log")
	}
}

// eventsLast are so many of events, the last one of which isn't deleted.
func eventsLast(l []api.Slot, many int) []api.Slot {
	return append(slices.Clone(l[:many-1]), liveOf(l[many-1].S, l[many-1].B))
}

// P17.1: Add refuses a brief that isn't right or not of one, also of a full log; the log is as it was.
func TestAddRefused(t *testing.T) {
	for _, many := range []int{0, 1, 5, 4095, 4096} {
		l := logOf(thinned(eventsOf(many)))
		for _, b := range slices.Concat(wrongBriefs(), notOnes()) {
			for _, s := range []string{"", "a text"} {
				h := hold(l)
				got, e := ledger.Add(h.log, s, b)
				wantAsItWas(t, fmt.Sprintf("%d, %+v", many, b), got, e, api.ErrArg, l)
				h.wantUntouched(t, fmt.Sprintf("%d, %+v", many, b))
			}
		}
	}
}

// P17.1: Drop of each event of logs: the first, the last, those between.
func TestDrop(t *testing.T) {
	r := rand.New(rand.NewSource(5))
	for many := range 40 {
		events := anyEvents(r, many)
		l := logOf(events)
		for i, x := range events {
			h := hold(l)
			got, e := ledger.Drop(h.log, i)
			what := fmt.Sprintf("%d of %d", i, many)
			switch {
			case x.B.Keep:
				wantAsItWas(t, what, got, e, api.ErrKept, l)
			case x.Gone:
				wantAsItWas(t, what, got, e, api.ErrGone, l)
			default:
				wantLog(t, what, got, e, api.Log{L: replaced(events, i, goneOf(x)), Links: l.Links})
			}
			h.wantUntouched(t, what)
		}
	}
}

// P17.1: Drop of each event that needn't be kept, one after the other, from either end.
func TestDropAll(t *testing.T) {
	for _, many := range []int{1, 2, 3, 8, 21} {
		places := make([]int, many)
		for i := range places {
			places[i] = i
		}
		for range 2 {
			events := eventsOf(many)
			l := logOf(events)
			for _, i := range places {
				was := l
				next, e := ledger.Drop(l, i)
				if events[i].B.Keep {
					wantAsItWas(t, fmt.Sprint(i), next, e, api.ErrKept, was)
					continue
				}
				events[i] = goneOf(events[i])
				wantLog(t, fmt.Sprint(i), next, e, logOf(events))
				again, e := ledger.Drop(next, i)
				wantAsItWas(t, fmt.Sprint(i), again, e, api.ErrGone, next)
				l = next
			}
			slices.Reverse(places)
		}
	}
}

// P17.1: Drop of the first and the last event of a full log.
func TestDropOfFull(t *testing.T) {
	events := eventsOf(4096)
	events[0].B.Keep, events[4095].B.Keep = false, false
	l := logOf(events)
	for _, i := range []int{0, 2, 2048, 4094, 4095} {
		if events[i].B.Keep {
			continue
		}
		got, e := ledger.Drop(l, i)
		wantLog(t, fmt.Sprint(i), got, e, logOf(replaced(events, i, goneOf(events[i]))))
	}
}

// P17.1: Drop refuses places at which there is no event; the log is as it was.
func TestDropOfNone(t *testing.T) {
	for _, many := range []int{0, 1, 2, 7, 4096} {
		l := logOf(thinned(eventsOf(many)))
		for _, i := range append(farNumbers(), many, many+1, many+2) {
			h := hold(l)
			got, e := ledger.Drop(h.log, i)
			wantAsItWas(t, fmt.Sprintf("%d of %d", i, many), got, e, api.ErrNone, l)
			h.wantUntouched(t, fmt.Sprintf("%d of %d", i, many))
		}
	}
}

// P17.1: Same, of logs that are made apart in the same way, of none, of lists that are nil or not.
func TestSame(t *testing.T) {
	r := rand.New(rand.NewSource(6))
	for _, many := range []int{0, 1, 2, 5, 64} {
		events := anyEvents(r, many)
		one, other := ledger.New(), ledger.New()
		for _, x := range events {
			one, _ = ledger.Add(one, x.S, x.B)
			other, _ = ledger.Add(other, strings.Clone(x.S), x.B)
		}
		if !ledger.Same(one, other) || !ledger.Same(one, one) {
			t.Errorf("%d: not the same", many)
		}
		if a, b := logOf(events), hold(logOf(events)).log; !ledger.Same(a, b) || !ledger.Same(b, a) {
			t.Errorf("%d, with room behind: not the same", many)
		}
	}
	none := api.Log{L: []api.Slot{}, Links: []api.Hash{}}
	for _, x := range [][2]api.Log{{{}, {}}, {{}, none}, {none, none}, {none, {L: []api.Slot{}}}, {logOf(nil), {L: []api.Slot{}, Links: linksOf(nil)}}} {
		if !ledger.Same(x[0], x[1]) || !ledger.Same(x[1], x[0]) {
			t.Errorf("%+v, %+v: not the same", x[0], x[1])
		}
	}
}

// P17.1: Same tells apart logs that are unlike in one thing alone.
func TestNotSame(t *testing.T) {
	l := logOf(thinned(eventsOf(5)))
	var others []api.Log
	change := func(i int, x api.Slot) {
		others = append(others, api.Log{L: replaced(l.L, i, x), Links: l.Links})
	}
	for i, x := range l.L {
		change(i, api.Slot{S: x.S + "\x00", Gone: x.Gone, H: x.H, B: x.B})
		change(i, api.Slot{S: "another one", Gone: x.Gone, H: x.H, B: x.B})
		change(i, api.Slot{S: x.S, Gone: !x.Gone, H: x.H, B: x.B})
		for _, h := range changesOfHash(x.H) {
			change(i, api.Slot{S: x.S, Gone: x.Gone, H: h, B: x.B})
		}
		for _, b := range changesOfBrief(x.B) {
			change(i, api.Slot{S: x.S, Gone: x.Gone, H: x.H, B: b})
		}
	}
	for i, h := range l.Links {
		for _, h := range changesOfHash(h) {
			others = append(others, api.Log{L: l.L, Links: replaced(l.Links, i, h)})
		}
	}
	others = append(others, api.Log{}, api.Log{L: l.L}, api.Log{Links: l.Links}, ledger.New(),
		api.Log{L: l.L[:4], Links: l.Links}, api.Log{L: l.L[1:], Links: l.Links}, api.Log{L: append(slices.Clone(l.L), api.Slot{}), Links: l.Links},
		api.Log{L: l.L, Links: l.Links[:5]}, api.Log{L: l.L, Links: l.Links[1:]}, api.Log{L: l.L, Links: append(slices.Clone(l.Links), api.Hash{})},
		api.Log{L: exchanged(l.L, 0, 1), Links: l.Links}, api.Log{L: l.L, Links: exchanged(l.Links, 0, 5)})
	for i, x := range others {
		if ledger.Same(l, x) || ledger.Same(x, l) {
			t.Errorf("%d: the same", i)
		}
	}
	if ledger.Same(api.Log{}, ledger.New()) || ledger.Same(ledger.New(), api.Log{}) {
		t.Error("nothing and a new log: the same")
	}
}

// P17.1: what is asked of a log changes nothing of it, nor of the room behind it.
func TestNothingWritten(t *testing.T) {
	for _, many := range []int{0, 1, 2, 9} {
		l := logOf(thinned(eventsOf(many)))
		h, other := hold(l), hold(l)
		ledger.Right(h.log)
		h.wantUntouched(t, "Right")
		ledger.Same(h.log, other.log)
		h.wantUntouched(t, "Same")
		other.wantUntouched(t, "Same")
		ledger.State(h.log)
		h.wantUntouched(t, "State")
		ledger.Add(h.log, "x", briefOfOne(1))
		h.wantUntouched(t, "Add")
		for i := range many {
			ledger.Drop(h.log, i)
			h.wantUntouched(t, "Drop")
		}
	}
}

// P17.1: logs that were made from one share nothing by which a later call on the one changes the other.
func TestNothingShared(t *testing.T) {
	for _, many := range []int{1, 2, 3, 8, 30} {
		l := hold(logOf(eventsOf(many))).log
		one, _ := ledger.Add(l, "one", briefOfOne(1))
		other, _ := ledger.Add(l, "another one", briefOfOne(2))
		dropped := one
		for i := range many {
			dropped, _ = ledger.Drop(dropped, i)
		}
		further, _ := ledger.Add(dropped, "further", briefOfOne(3))
		events := eventsOf(many)
		wantLog(t, "the log", l, api.OK, logOf(events))
		wantLog(t, "with one more", one, api.OK, logOf(append(eventsOf(many), liveOf("one", briefOfOne(1)))))
		wantLog(t, "with another one", other, api.OK, logOf(append(eventsOf(many), liveOf("another one", briefOfOne(2)))))
		for i, x := range events {
			if !x.B.Keep {
				events[i] = goneOf(x)
			}
		}
		events = append(events, liveOf("one", briefOfOne(1)))
		wantLog(t, "those dropped", dropped, api.OK, logOf(events))
		wantLog(t, "one more behind these", further, api.OK, logOf(append(events, liveOf("further", briefOfOne(3)))))
	}
}

// P17.1: a log that was handed out is its owner's alone: who writes into it changes no other one.
func TestAnswersAreNew(t *testing.T) {
	l := logOf(eventsOf(4))
	full := logOf(eventsOf(4096))
	for i, answer := range []func() (api.Log, api.Errno){
		func() (api.Log, api.Errno) { return ledger.Add(l, "x", briefOfOne(1)) },
		func() (api.Log, api.Errno) { return ledger.Add(l, "x", api.Brief{}) },
		func() (api.Log, api.Errno) { return ledger.Add(full, "x", briefOfOne(1)) },
		func() (api.Log, api.Errno) { return ledger.Drop(l, 1) },
		func() (api.Log, api.Errno) { return ledger.Drop(l, 0) },
		func() (api.Log, api.Errno) { return ledger.Drop(l, 4) },
	} {
		got, _ := answer()
		clear(got.L[:cap(got.L)])
		clear(got.Links[:cap(got.Links)])
		if !isSame(l, logOf(eventsOf(4))) || !slices.Equal(full.Links, linksOf(eventsOf(4096))) || !slices.Equal(full.L, eventsOf(4096)) {
			t.Errorf("%d: the log that was handed in is changed", i)
		}
	}
}
