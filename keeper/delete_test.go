package keeper_test

import (
	"fmt"
	"math/rand"
	"slices"
	"strings"
	"testing"

	"tabulary/api"
	"tabulary/chain"
	"tabulary/disk"
	"tabulary/grow"
	"tabulary/keeper"
	"tabulary/ledger"
)

// deleteOf is what a logger has to be when the i-th event is deleted.
func deleteOf(g api.Logger, i int) api.Logger {
	x := g.L.L[i]
	next := writtenOf(g, deletionText(i, x))
	next.D = onto(settled(next.D), g.Recs[i], wipedOf(g.D.Size, eventText(x.S)))
	next.L = logOf(g.L.L)
	next.L.L[i] = goneOf(x)
	return next
}

// wantDelete fails the test, unless the i-th event is deleted; it answers the logger.
func wantDelete(t *testing.T, what string, g api.Logger, i int) api.Logger {
	t.Helper()
	got, e := keeper.Delete(g, i)
	wantDone(t, what, got, e, deleteOf(g, i))
	if ledger.State(got.L) != stateOf(g.L.L) {
		t.Errorf("%s: another state", what)
	}
	return got
}

// wantNoDelete fails the test, unless it is refused by that error, and the logger is as it was.
func wantNoDelete(t *testing.T, what string, g api.Logger, i int, want api.Errno) {
	t.Helper()
	got, e := keeper.Delete(g, i)
	wantRefused(t, fmt.Sprint(what, " ", i), got, e, want, g)
}

// P18.3: Delete of the first event, of one in the midst, of the last one, of all, synced ahead or not.
func TestDelete(t *testing.T) {
	r := api.Rule{Grave: -1, Bytes: 400, Events: 9}
	for _, size := range []int{96, 128, 1024} {
		g := began(t, 90, size, ourKeys(0), r)
		for i := range 5 {
			g = ingested(t, g, messageOf(i, strings.Repeat("secret", 13*i)))
		}
		synced, _ := keeper.Sync(g)
		for _, g := range []api.Logger{g, synced} {
			for _, places := range [][]int{{0}, {2}, {4}, {0, 4}, {4, 3, 2, 1, 0}, {2, 0, 4, 1, 3}} {
				got := g
				for _, i := range places {
					got = wantDelete(t, fmt.Sprint(size, i), got, i)
				}
				got = wantIngest(t, "one behind", got, slotOf(3, "behind", r))
				wantDelete(t, "that", got, 5)
			}
		}
	}
}

// P18.3: Delete by hand: the record of it, the event's record that is wiped.
func TestDeleteByHand(t *testing.T) {
	g := ingested(t, began(t, 9, 96, ourKeys(0), ourRule()), "<34>1 - h a - - - one", "<37>1 - h a - - - two")
	got, e := keeper.Delete(g, 1)
	h := hashOf(1, "<37>1 - h a - - - two")
	text := "\x02\x00\x00\x00\x03" + "\x00\x00\x00\x00\x00\x00\x00\x08" + "\x00\x00\x00\x00\x00\x00\x00\x01" + "\x00\x00\x00\x00\x00\x00\x00\x20" + string(h[:]) +
		"\x00\x00\x00\x00\x00\x00\x00\x21" + strings.Repeat("\x00", 16) + "\x00\x00\x00\x20" + "\x00\x00\x00\x10" + "\x00\x00\x00\x00\x00\x00\x00\x01" + "\x00"
	want := empty(9, 96)
	want = onto(want, 0, rowOf(96, eventText("<34>1 - h a - - - one")))
	want = onto(want, 2, cutOf(96, headOf(eventText("<37>1 - h a - - - two"), true)))
	want = onto(want, 4, rowOf(96, text))
	if e != api.OK || !isSameDisk(got.D, want) || got.At != 6 || !slices.Equal(got.Recs, []int{0, 2}) {
		t.Errorf("%d, %s: %q", e, toldOf(got), got.D.Kept)
	}
	if got.L.L[1] != (api.Slot{Gone: true, H: h, B: api.Brief{Grave: 32, From: 16, Many: 1}}) || got.L.L[0] != g.L.L[0] || !slices.Equal(got.L.Links, g.L.Links) {
		t.Errorf("%+v", got.L.L)
	}
}

// P18.3: of a text that was deleted no byte is left behind its head, on the disk or among its writes, whatever a crash keeps.
func TestDeleteLeavesNoByte(t *testing.T) {
	r := api.Rule{Grave: -1, Bytes: 900, Events: 9}
	for _, many := range []int{1, 2, 10, 100} {
		s := messageOf(3, strings.Repeat("secret", many))
		g := ingested(t, began(t, 60, 96, ourKeys(0), r), messageOf(3, "one"), s, messageOf(3, "two"))
		g = ingested(t, wantDelete(t, "secret", g, 1), messageOf(4, "more"))
		at, need := g.Recs[1], len(rowOf(96, eventText(s)))
		for _, d := range []api.Disk{g.D, disk.Crash(g.D, nil), disk.Crash(g.D, []int{5, 96})} {
			image := disk.Image(d)
			if behind := strings.Join(image[at:at+need], "")[69:]; strings.Trim(behind, "\x00") != "" {
				t.Errorf("%d: %q", many, behind)
			}
			for _, s := range slices.Concat(image, d.Kept) {
				if strings.Contains(s, "secr") || strings.Contains(s, "cret") {
					t.Errorf("%d: %q", many, s)
				}
			}
		}
	}
}

// P18.3: Delete of an event whose record stands on the last sectors' place, and that needs the last sector for its own.
func TestDeleteRoom(t *testing.T) {
	for _, size := range []int{96, 171, 172, 1024} {
		need := len(rowOf(size, laid(2, numberText(0), strings.Repeat("h", 32), strings.Repeat("b", 33))))
		event := len(rowOf(size, eventText(messageOf(3, "a"))))
		for more := range 3 {
			g := ingested(t, began(t, event+need+more, size, ourKeys(0), ourRule()), messageOf(3, "a"))
			for at := event; at <= event+need+more; at++ {
				g := changed(g, func(g *api.Logger) { g.At = at })
				if at <= event+more {
					wantDelete(t, fmt.Sprint("room of ", size), g, 0)
					continue
				}
				wantNoDelete(t, fmt.Sprint("no room of ", size), g, 0, api.ErrFull)
			}
		}
	}
}

// P18.3: Delete of no event: ErrNone, also where there is no room; of one that has to be kept: ErrKept; of one that is gone: ErrGone.
func TestDeleteRefused(t *testing.T) {
	g := someLogger(t)
	nothing := began(t, 5, 96, ourKeys(0), ourRule())
	for _, full := range []bool{false, true} {
		g, nothing := g, nothing
		if full {
			g.At, nothing.At = 30, 5
		}
		for _, n := range append(farNumbers(), -1, 4, 5) {
			wantNoDelete(t, "no event", g, n, api.ErrNone)
			wantNoDelete(t, "of none", nothing, n, api.ErrNone)
		}
		wantNoDelete(t, "of none", nothing, 0, api.ErrNone)
		wantNoDelete(t, "kept", g, 0, api.ErrKept)
		wantNoDelete(t, "gone", g, 2, api.ErrGone)
	}
	wantDelete(t, "one that is there", g, 1)
	wantDelete(t, "the last one", g, 3)
	for _, i := range []int{1, 3} {
		wantNoDelete(t, "twice", wantDelete(t, "once", g, i), i, api.ErrGone)
	}
}

// P18.3: Delete by each rule: just those below its Grave.
func TestDeleteByRule(t *testing.T) {
	for rule := -1; rule <= 7; rule++ {
		g := began(t, 60, 128, ourKeys(0), api.Rule{Grave: rule, Bytes: 60, Events: 8})
		for grave := range 8 {
			g = ingested(t, g, messageOf(grave, ""))
		}
		for grave := range 8 {
			if grave <= rule {
				wantNoDelete(t, "kept", g, grave, api.ErrKept)
				continue
			}
			wantDelete(t, "not kept", g, grave)
		}
	}
}

// P18.3: Delete without power: ErrDead ahead of all others.
func TestDeleteWithoutPower(t *testing.T) {
	g := someLogger(t)
	for _, g := range []api.Logger{g, changed(g, func(g *api.Logger) { g.At = 30 }), changed(g, func(g *api.Logger) { g.Recs[1] = 29 })} {
		for _, n := range append(farNumbers(), -1, 0, 1, 2, 3, 4, 5) {
			wantNoDelete(t, "no power", cut(g), n, api.ErrDead)
		}
	}
}

// P18.3: Delete where the event's sector tells no record: ErrNone, behind ErrFull; where it tells another one, that is wiped.
func TestDeleteOfNoRecord(t *testing.T) {
	g := someLogger(t)
	for _, n := range append(farNumbers(), -1, 28, 29, 30, 31) {
		g := changed(g, func(g *api.Logger) { g.Recs[1] = n })
		wantNoDelete(t, "no record", g, 1, api.ErrNone)
		wantNoDelete(t, "no record, no room", changed(g, func(g *api.Logger) { g.At = 30 }), 1, api.ErrFull)
	}
	wantNoDelete(t, "zeros", changed(g, func(g *api.Logger) { g.D = empty(30, 128) }), 1, api.ErrNone)
	other := changed(g, func(g *api.Logger) { g.Recs[1] = g.Recs[0] })
	want := deleteOf(g, 1)
	want.Recs = other.Recs
	want.D = onto(onto(want.D, g.Recs[1], rowOf(128, eventText(g.L.L[1].S))), g.Recs[0], wipedOf(128, eventText(g.L.L[0].S)))
	got, e := keeper.Delete(other, 1)
	wantDone(t, "another record", got, e, want)
}

// wantGrown fails the test, unless Grown tells how a log of these events grew from m on.
func wantGrown(t *testing.T, g api.Logger, m int) {
	t.Helper()
	p, hops, e := keeper.Grown(g, m)
	old, now := stateOf(g.L.L[:m]), stateOf(g.L.L)
	if e != api.OK || grow.Check(old.Root, m, now.Root, now.N, p) != api.OK {
		t.Errorf("%d of %d: %d, a growth that isn't one", m, now.N, e)
	}
	if head, e := chain.Check(now.Head, now.N, m, hops); e != api.OK || head != old.Head {
		t.Errorf("%d of %d: %d, a way that leads elsewhere", m, now.N, e)
	}
	want, _ := grow.Prove(nodesOf(g.L.L), m)
	var leaves []api.Hash
	for _, n := range nodesOf(g.L.L) {
		leaves = append(leaves, n.H)
	}
	wantHops, _ := chain.Path(leaves, m, now.N)
	if !grow.Same(p, want) || !slices.Equal(hops, wantHops) {
		t.Errorf("%d of %d: not as proved", m, now.N)
	}
}

// P18.3: Grown of 0, of as many as there are, of all between, of an empty log, of some that were deleted; with the power gone, too.
func TestGrown(t *testing.T) {
	r := api.Rule{Grave: 1, Bytes: 60, Events: 20}
	g := began(t, 90, 128, ourKeys(0), r)
	for many := range 18 {
		for m := range many + 1 {
			wantGrown(t, g, m)
			wantGrown(t, cut(g), m)
		}
		g = ingested(t, g, messageOf(many%8, fmt.Sprint(many)))
		if many%3 == 2 && many%8 > 1 {
			g = deleted(t, g, many)
		}
	}
	for _, m := range []int{0, 1, 4, 5, 17, 18} {
		wantGrown(t, changed(g, func(g *api.Logger) { g.G.Next, g.At, g.R.Events = 1, 90, 0 }), m)
	}
}

// P18.3: Grown by hand, of three events from two on.
func TestGrownByHand(t *testing.T) {
	g := ingested(t, began(t, 9, 128, ourKeys(0), ourRule()), messageOf(1, "a"), messageOf(2, "b"), messageOf(3, "c"))
	n := nodesOf(g.L.L)
	p, hops, e := keeper.Grown(g, 2)
	if e != api.OK || !slices.Equal(p.Old, []api.Node{joinOf(n[0], n[1])}) || !slices.Equal(p.New, []api.Node{n[2]}) {
		t.Errorf("%d: %+v", e, p)
	}
	if want := []api.Hop{{Leaf: n[2].H, One: g.L.Links[2], Far: g.L.Links[2]}}; !slices.Equal(hops, want) {
		t.Errorf("%+v, not %+v", hops, want)
	}
}

// P18.3: Grown of what isn't 0 to how many there are: ErrArg, and nothing; with the power gone, too.
func TestGrownRefused(t *testing.T) {
	for _, g := range []api.Logger{began(t, 5, 96, ourKeys(0), ourRule()), someLogger(t)} {
		for _, m := range append(farNumbers(), -1, len(g.L.L)+1, len(g.L.L)+2) {
			for _, g := range []api.Logger{g, cut(g)} {
				p, hops, e := keeper.Grown(g, m)
				if e != api.ErrArg || len(p.Old) != 0 || len(p.New) != 0 || len(hops) != 0 {
					t.Errorf("%d of %d: %d, %+v, %d hops", m, len(g.L.L), e, p, len(hops))
				}
			}
		}
	}
}

// calls are all calls of a logger, each with the loggers that it answers: ones that are refused, too.
func calls() map[string]func(g api.Logger) []api.Logger {
	ingest := func(s string) func(g api.Logger) []api.Logger {
		return func(g api.Logger) []api.Logger { g, _, _ = keeper.Ingest(g, s); return []api.Logger{g} }
	}
	drop := func(i int) func(g api.Logger) []api.Logger {
		return func(g api.Logger) []api.Logger { g, _ = keeper.Delete(g, i); return []api.Logger{g} }
	}
	return map[string]func(g api.Logger) []api.Logger{
		"Ingest":               ingest(messageOf(3, "new")),
		"Ingest of too much":   ingest(longMessage(3, 101)),
		"Ingest of no message": ingest("x"),
		"Commit":               func(g api.Logger) []api.Logger { g, _, _ = keeper.Commit(g); return []api.Logger{g} },
		"Sync":                 func(g api.Logger) []api.Logger { g, _ = keeper.Sync(g); return []api.Logger{g} },
		"Delete":               drop(1),
		"Delete of the last":   drop(3),
		"Delete of a kept one": drop(0),
		"Delete of none":       drop(9),
		"Delete of a gone one": drop(2),
		"Recover":              func(g api.Logger) []api.Logger { g, _ = keeper.Recover(g.D, g.G.K, g.R); return []api.Logger{g} },
		"New":                  func(g api.Logger) []api.Logger { g, _ = keeper.New(g.D, g.G.K, g.R); return []api.Logger{g} },
		"those that only ask": func(g api.Logger) []api.Logger {
			keeper.Right(g)
			keeper.Same(g, g)
			keeper.Grown(g, 2)
			keeper.Grown(g, 9)
			return nil
		},
	}
}

// handedIn are loggers to be handed in: ordinary ones, crashed ones, without power, with no key left, no room, no event more.
func handedIn(t *testing.T) []api.Logger {
	t.Helper()
	g := someLogger(t)
	waits := ingested(t, g, messageOf(5, "waits"), messageOf(6, "too"))
	return []api.Logger{
		g, waits, cut(g), changed(g, func(g *api.Logger) { g.G.Next = 4 }), changed(g, func(g *api.Logger) { g.At = 30 }), changed(g, func(g *api.Logger) { g.R.Events = 4 }),
		changed(waits, func(g *api.Logger) { g.D = disk.Crash(g.D, nil) }), changed(waits, func(g *api.Logger) { g.D = disk.Crash(g.D, []int{128, 70, 128}) }),
		changed(g, func(g *api.Logger) { g.Recs[1], g.Recs[3] = 29, -1 }),
	}
}

// R3: no list that is handed in is written into, neither within its length nor in the room behind it; no answer changes with it later, nor it with the answer.
func TestHandedInIsLeftAlone(t *testing.T) {
	for i, g := range handedIn(t) {
		for name, call := range calls() {
			what := fmt.Sprint(name, " of ", i)
			h := hold(g)
			answer, again := call(h.g), call(h.g)
			h.wantUntouched(t, what)
			for k := range answer {
				wantSame(t, what+": the second time", again[k], answer[k])
				spoil(again[k])
				h.wantUntouched(t, what+": the answer spoilt")
				stays := copyOf(answer[k])
				spoil(h.whole)
				wantSame(t, what+": spoilt ahead of it", answer[k], stays)
			}
		}
	}
}

// R3: what Grown answers changes with nothing, and nothing with it.
func TestGrownIsNew(t *testing.T) {
	g := someLogger(t)
	p, hops, _ := keeper.Grown(g, 2)
	clear(p.Old)
	clear(p.New)
	clear(hops)
	wantGrown(t, g, 2)
}

// R3: two loggers that were made from one share nothing that a later call on either one changes.
func TestNothingShared(t *testing.T) {
	r := rand.New(rand.NewSource(3))
	all := calls()
	var names []string
	for name := range all {
		if name != "those that only ask" {
			names = append(names, name)
		}
	}
	slices.Sort(names)
	for range 300 {
		loggers := []api.Logger{handedIn(t)[r.Intn(2)]}
		was := []api.Logger{copyOf(loggers[0])}
		for range 12 {
			from := r.Intn(len(loggers))
			next := all[names[r.Intn(len(names))]](loggers[from])[0]
			loggers, was = append(loggers, next), append(was, copyOf(next))
		}
		for i, g := range loggers {
			wantSame(t, "later", g, was[i])
		}
	}
}
