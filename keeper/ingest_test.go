package keeper_test

import (
	"fmt"
	"math/rand"
	"slices"
	"strings"
	"testing"

	"tabulary/api"
	"tabulary/brief"
	"tabulary/disk"
	"tabulary/keeper"
	"tabulary/sysl"
)

// writtenOf is what a logger has to be when a record is written.
func writtenOf(g api.Logger, text string) api.Logger {
	row := rowOf(g.D.Size, text)
	g.D, g.At = waiting(g.D, g.At, row), g.At+len(row)
	return g
}

// ingestOf is what a logger has to be when it has taken a message, whose event is x.
func ingestOf(g api.Logger, x api.Slot) api.Logger {
	next := writtenOf(g, eventText(x.S))
	next.Recs, next.L = append(slices.Clone(g.Recs), g.At), logOf(append(slices.Clone(g.L.L), x))
	return next
}

// wantIngest fails the test, unless a message is taken as that event; it answers the logger.
func wantIngest(t *testing.T, what string, g api.Logger, x api.Slot) api.Logger {
	t.Helper()
	got, place, e := keeper.Ingest(g, x.S)
	wantDone(t, what, got, e, ingestOf(g, x))
	if place != len(g.L.L) {
		t.Errorf("%s: place %d, not %d", what, place, len(g.L.L))
	}
	return got
}

// wantNoIngest fails the test, unless a message is refused by that error, and the logger is as it was.
func wantNoIngest(t *testing.T, what string, g api.Logger, s string, want api.Errno) {
	t.Helper()
	got, place, e := keeper.Ingest(g, s)
	wantRefused(t, what, got, e, want, g)
	if place != 0 {
		t.Errorf("%s: place %d", what, place)
	}
}

// The chapter's example.
func TestExample(t *testing.T) {
	g, i, e := keeper.Ingest(began(t, 3, 96, ourKeys(0), ourRule()), "<0>1 - - - - - -")
	if i != 0 || e != api.OK {
		t.Fatal(i, e)
	}
	synced, e := keeper.Sync(g)
	if e != api.OK {
		t.Fatal(e)
	}
	found, e := keeper.Recover(synced.D, ourKeys(0), ourRule())
	wantDone(t, "found again", found, e, synced)
	if len(found.L.L) != 1 || found.L.L[0].S != "<0>1 - - - - - -" {
		t.Errorf("%+v", found.L.L)
	}
}

// P18.2: Ingest of the first message, of the second, of each one up to the last that Events lets in.
func TestIngest(t *testing.T) {
	for _, size := range []int{96, 97, 128, 512, 1024} {
		for _, grave := range []int{-1, 0, 3, 7} {
			r := api.Rule{Grave: grave, Bytes: 100, Events: 9}
			g := began(t, 40, size, ourKeys(0), r)
			for i := range 9 {
				g = wantIngest(t, fmt.Sprint(size, grave, i), g, slotOf(i%8, strings.Repeat("e", 9*i), r))
			}
			wantNoIngest(t, "one too many", g, messageOf(1, ""), api.ErrFull)
		}
	}
}

// P18.2: Ingest by hand: the bytes that are written, the sector that is told.
func TestIngestByHand(t *testing.T) {
	g := began(t, 5, 96, ourKeys(0), ourRule())
	got, place, e := keeper.Ingest(g, "<34>1 - h a - - - hi")
	text := "\x01\x00\x00\x00\x01\x00\x00\x00\x00\x00\x00\x00\x14<34>1 - h a - - - hi"
	row := headOf(text, false) + text + strings.Repeat("\x00", 192-69-33)
	if e != api.OK || place != 0 || len(got.D.W) != 2 || got.D.W[0] != (api.Write{At: 0, S: row[:96]}) || got.D.W[1] != (api.Write{At: 1, S: row[96:]}) {
		t.Errorf("%d, %d, %+v", place, e, got.D.W)
	}
	x := api.Slot{S: "<34>1 - h a - - - hi", H: hashOf(1, "<34>1 - h a - - - hi"), B: api.Brief{Grave: 4, From: 16, Many: 1, Keep: true}}
	if got.At != 2 || !slices.Equal(got.Recs, []int{0}) || !slices.Equal(got.L.L, []api.Slot{x}) || got.G.Next != 0 || got.R != ourRule() {
		t.Errorf("%s, %+v", toldOf(got), got.L.L)
	}
	got, place, e = keeper.Ingest(got, "<7>1 1985-04-12T23:20:50.52Z - - - - -")
	at := int64(482196050520000000)
	x = api.Slot{S: "<7>1 1985-04-12T23:20:50.52Z - - - - -", H: hashOf(1, "<7>1 1985-04-12T23:20:50.52Z - - - - -"), B: api.Brief{First: at, Last: at, Grave: 128, From: 1, Many: 1}}
	if e != api.OK || place != 1 || got.At != 4 || !slices.Equal(got.Recs, []int{0, 2}) || got.L.L[1] != x {
		t.Errorf("%d, %d, %s, %+v", place, e, toldOf(got), got.L.L)
	}
}

// P18.2: an event is kept just if its Grave isn't above the rule's.
func TestIngestKept(t *testing.T) {
	for rule := -1; rule <= 7; rule++ {
		r := api.Rule{Grave: rule, Bytes: 60, Events: 1}
		for grave := range 8 {
			for from := range 24 {
				s := fmt.Sprintf("<%d>1 - - - - - -", 8*from+grave)
				g, _, e := keeper.Ingest(began(t, 2, 96, ourKeys(0), r), s)
				want := api.Brief{Grave: 1 << grave, From: 1 << from, Many: 1, Keep: grave <= rule}
				if e != api.OK || g.L.L[0].B != want {
					t.Errorf("%s by %d: %d, %+v", s, rule, e, g.L.L)
				}
			}
		}
	}
}

// P18.2: Ingest of messages of all parts: what is told of them is chapter 6's, the text stays as it came.
func TestIngestOfAllParts(t *testing.T) {
	r := api.Rule{Grave: 3, Bytes: 4096, Events: 100}
	g := began(t, 900, 1024, ourKeys(0), r)
	for _, s := range []string{
		"<191>1 2250-12-31T23:59:59.999999Z h a p i [x n=\"v\"][y] \xef\xbb\xbftext", "<0>1 1700-01-01T00:00:00+00:00 h a p i - text", "<165>1 2003-08-24T05:14:15.000003-07:00 192.0.2.1 myproc 8710 - - %% It's time",
		"<1>1 - - - - - [a b=\"\\\"\\\\\\]\"] é", "<1>1 - - - - - - \xef\xbb\xbf", "<12>1 - " + strings.Repeat("h", 255) + " - - - - " + strings.Repeat("é", 1900),
	} {
		m, e := sysl.Parse(s)
		if e != api.OK {
			t.Fatalf("%q: %d", s, e)
		}
		g = wantIngest(t, s, g, api.Slot{S: s, H: hashOf(1, s), B: brief.Of(m, m.Grave <= 3)})
	}
}

// P18.2: Ingest of just Bytes bytes, and of one more: ErrBig, also where it is no message.
func TestIngestBytes(t *testing.T) {
	for _, many := range []int{20, 21, 60, 100, 4095, 4096} {
		r := api.Rule{Grave: 2, Bytes: many, Events: 3}
		g := began(t, 20, 1024, ourKeys(0), r)
		g = wantIngest(t, "just so many", g, liveOf(longMessage(3, many), 3, false))
		g = wantIngest(t, "one byte fewer", g, liveOf(longMessage(3, max(many-1, 20)), 3, false))
		for _, more := range []int{1, 2, 100, 70000} {
			wantNoIngest(t, "more", g, longMessage(3, many+more), api.ErrBig)
			wantNoIngest(t, "more, no message", g, strings.Repeat("x", many+more), api.ErrBig)
		}
		wantNoIngest(t, "no message", g, strings.Repeat("x", many), api.ErrForm)
	}
	tiny := began(t, 3, 96, ourKeys(0), api.Rule{Bytes: 1})
	for s, want := range map[string]api.Errno{"": api.ErrForm, "<": api.ErrForm, "<9": api.ErrBig, messageOf(1, ""): api.ErrBig} {
		wantNoIngest(t, "of 1 byte", tiny, s, want)
	}
}

// P18.2: Ingest of what is no message: chapter 5's error, also where the log is full, or the disk.
func TestIngestOfNoMessage(t *testing.T) {
	r := api.Rule{Grave: 2, Bytes: 100, Events: 2}
	g := began(t, 6, 96, ourKeys(0), r)
	full := ingested(t, g, messageOf(1, "a"), messageOf(7, "b"))
	none := began(t, 6, 96, ourKeys(0), api.Rule{Grave: 2, Bytes: 100})
	behind := changed(g, func(g *api.Logger) { g.At = 6 })
	for _, s := range noMessages() {
		for _, g := range []api.Logger{g, full, none, behind} {
			if _, e := sysl.Parse(s); e != api.ErrForm {
				t.Fatalf("%q: a message", s)
			}
			wantNoIngest(t, s, g, s, api.ErrForm)
		}
	}
}

// P18.2: Ingest where Events are there: ErrFull, also with Events 0, also where there is no room on the disk.
func TestIngestFull(t *testing.T) {
	for events := range 5 {
		r := api.Rule{Grave: 2, Bytes: 100, Events: events}
		g := began(t, 12, 96, ourKeys(0), r)
		for i := range events {
			g = wantIngest(t, "of few", g, slotOf(3, fmt.Sprint(i), r))
		}
		wantNoIngest(t, "full", g, messageOf(3, ""), api.ErrFull)
		wantNoIngest(t, "full, no room", changed(g, func(g *api.Logger) { g.At = 12 }), messageOf(3, ""), api.ErrFull)
		wantNoIngest(t, "full, too big", g, longMessage(3, 101), api.ErrBig)
	}
	fewer := changed(someLogger(t), func(g *api.Logger) { g.R.Events = 2 })
	wantNoIngest(t, "more events than may be", fewer, messageOf(3, ""), api.ErrFull)
}

// P18.2: Ingest up to MaxEvents.
func TestIngestUpToTheMost(t *testing.T) {
	var l []api.Slot
	r := api.Rule{Grave: 2, Bytes: 100, Events: 4096}
	for i := range 4095 {
		l = append(l, slotOf(i%8, fmt.Sprint(i), r))
	}
	g := began(t, 3, 96, ourKeys(0), r)
	g.L, g.Recs = logOf(l), make([]int, 4095)
	g = wantIngest(t, "the last one", g, slotOf(4, "last", r))
	wantNoIngest(t, "one too many", g, messageOf(3, ""), api.ErrFull)
}

// P18.2: Ingest that needs the last sector, or several; and that has none by one sector.
func TestIngestRoom(t *testing.T) {
	r := api.Rule{Grave: 2, Bytes: 1000, Events: 9}
	for _, size := range []int{96, 200} {
		for _, many := range []int{20, 100, 300, 1000} {
			x := liveOf(longMessage(3, many), 3, false)
			need := len(rowOf(size, eventText(x.S)))
			for _, at := range []int{0, 1, 7} {
				there := changed(began(t, at+need, size, ourKeys(0), r), func(g *api.Logger) { g.At = at })
				wantIngest(t, "just room", there, x)
				for _, from := range []int{at + 1, at + need - 1, at + need} {
					if from > at {
						wantNoIngest(t, "no room", changed(there, func(g *api.Logger) { g.At = from }), x.S, api.ErrFull)
					}
				}
			}
		}
	}
	// One behind the other, till the disk is full.
	g := began(t, 5, 96, ourKeys(0), r)
	for i := range 2 {
		g = wantIngest(t, "two sectors", g, slotOf(3, fmt.Sprint(i), r))
	}
	wantNoIngest(t, "one sector left", g, messageOf(3, "2"), api.ErrFull)
}

// P18.2: Ingest without power: ErrDead ahead of all others.
func TestIngestWithoutPower(t *testing.T) {
	full := changed(someLogger(t), func(g *api.Logger) { g.R.Events = 4 })
	for _, g := range []api.Logger{someLogger(t), full, changed(full, func(g *api.Logger) { g.At = 30 })} {
		for _, s := range append(noMessages(), messageOf(3, ""), longMessage(3, 101), strings.Repeat("x", 101)) {
			wantNoIngest(t, "no power", cut(g), s, api.ErrDead)
		}
	}
}

// P18.2: Sync: what was written is kept behind each crash.
func TestSync(t *testing.T) {
	r := rand.New(rand.NewSource(2))
	for i, g := range []api.Logger{began(t, 5, 96, ourKeys(0), ourRule()), someLogger(t), ingested(t, someLogger(t), messageOf(3, "a"), messageOf(4, "b"))} {
		want := changed(g, func(g *api.Logger) { g.D = settled(g.D) })
		got, e := keeper.Sync(g)
		wantDone(t, fmt.Sprint(i), got, e, want)
		for range 9 {
			if left := disk.Crash(got.D, []int{r.Intn(200), r.Intn(200)}); !isSameDisk(left, want.D) {
				t.Errorf("%d: not kept", i)
			}
		}
		again, e := keeper.Sync(got)
		wantDone(t, "once more", again, e, want)
	}
}

// P18.2: Sync without power: ErrDead.
func TestSyncWithoutPower(t *testing.T) {
	for _, g := range []api.Logger{cut(began(t, 5, 96, ourKeys(0), ourRule())), cut(someLogger(t))} {
		got, e := keeper.Sync(g)
		wantRefused(t, "no power", got, e, api.ErrDead, g)
	}
}

// commitOf is what a logger has to be when it has signed its state.
func commitOf(g api.Logger) api.Logger {
	next := writtenOf(g, stateText(g.G.Next))
	next.D = settled(next.D)
	next.G.Next++
	return next
}

// wantCommit fails the test, unless the state is signed with the next key; it answers the logger.
func wantCommit(t *testing.T, what string, g api.Logger) api.Logger {
	t.Helper()
	got, x, e := keeper.Commit(g)
	wantDone(t, what, got, e, commitOf(g))
	if want := stateOf(g.L.L); x.S != want {
		t.Errorf("%s: %+v, not %+v", what, x.S, want)
	}
	if !isSignedBy(g.G.K, g.G.Next, x) {
		t.Errorf("%s: not signed with key %d", what, g.G.Next)
	}
	return got
}

// wantNoCommit fails the test, unless it is refused by that error, and the logger is as it was.
func wantNoCommit(t *testing.T, what string, g api.Logger, want api.Errno) {
	t.Helper()
	got, x, e := keeper.Commit(g)
	wantRefused(t, what, got, e, want, g)
	if !isNoState(x) {
		t.Errorf("%s: %+v", what, x)
	}
}

// P18.2: Commit of an empty log, of several events, of some that were deleted; each key once, up to the last one.
func TestCommit(t *testing.T) {
	for height := range 4 {
		for _, bits := range []int{1, 7, 256} {
			k := api.Keys{Seed: "a seed", Height: height, Bits: bits}
			g := began(t, 60, 128, k, ourRule())
			for i := range 1 << height {
				g = wantCommit(t, fmt.Sprint(height, bits, i), g)
				if i < 5 {
					g = ingested(t, g, messageOf(i, "text"))
				}
				if i == 5 {
					g = deleted(t, g, 3)
				}
			}
			wantNoCommit(t, "no key is left", g, api.ErrKeys)
			wantNoCommit(t, "no key is left, no room", changed(g, func(g *api.Logger) { g.At = 60 }), api.ErrKeys)
			wantNoCommit(t, "no key is left, no power", cut(g), api.ErrDead)
		}
	}
}

// P18.2: Commit by hand: the record's bytes, and that all that was written ahead is synced, too.
func TestCommitByHand(t *testing.T) {
	g := ingested(t, began(t, 6, 96, ourKeys(1), ourRule()), messageOf(3, ""))
	got, x, e := keeper.Commit(g)
	text := "\x03\x00\x00\x00\x01\x00\x00\x00\x00\x00\x00\x00\x08\x00\x00\x00\x00\x00\x00\x00\x00"
	want := onto(onto(empty(6, 96), 0, rowOf(96, eventText(messageOf(3, "")))), 2, []string{headOf(text, false) + text + "\x00\x00\x00\x00\x00\x00"})
	if e != api.OK || got.At != 3 || got.G.Next != 1 || !isSameDisk(got.D, want) || x.G.Key != 0 || x.S.N != 1 || x.S.Root != nodeOf(g.L.L[0]) {
		t.Errorf("%d, %s, %+v", e, toldOf(got), x)
	}
	got, x, e = keeper.Commit(got)
	text = "\x03\x00\x00\x00\x01\x00\x00\x00\x00\x00\x00\x00\x08\x00\x00\x00\x00\x00\x00\x00\x01"
	if e != api.OK || got.At != 4 || got.G.Next != 2 || got.D.Kept[3] != headOf(text, false)+text+"\x00\x00\x00\x00\x00\x00" || x.G.Key != 1 {
		t.Errorf("%d, %s, %+v", e, toldOf(got), x)
	}
}

// P18.2: Commit of a deletion: the state stays.
func TestCommitBehindDeletion(t *testing.T) {
	g := committed(t, ingested(t, began(t, 40, 128, ourKeys(2), ourRule()), messageOf(3, "a"), messageOf(1, "b"), messageOf(4, "c")))
	_, before, _ := keeper.Commit(g)
	for _, g := range []api.Logger{deleted(t, g, 0), deleted(t, g, 2, 0)} {
		_, x, e := keeper.Commit(g)
		if e != api.OK || x.S != before.S || !isSignedBy(g.G.K, 1, x) {
			t.Errorf("%d: %+v, not %+v", e, x.S, before.S)
		}
		wantCommit(t, "behind a deletion", g)
	}
}

// P18.2: Commit that needs the last sector, and that has none.
func TestCommitRoom(t *testing.T) {
	for _, many := range []int{1, 2, 9} {
		g := began(t, many, 96, ourKeys(1), ourRule())
		wantCommit(t, "the last sector", changed(g, func(g *api.Logger) { g.At = many - 1 }))
		wantNoCommit(t, "no room", changed(g, func(g *api.Logger) { g.At = many }), api.ErrFull)
	}
	full := committed(t, began(t, 1, 96, ourKeys(1), ourRule()))
	wantNoCommit(t, "no room", full, api.ErrFull)
	waits := ingested(t, began(t, 2, 96, ourKeys(1), ourRule()), messageOf(3, ""))
	wantNoCommit(t, "no room, and a write waits", waits, api.ErrFull)
}

// P18.2: Commit without power: ErrDead, also where no key is left, or no room.
func TestCommitWithoutPower(t *testing.T) {
	g := someLogger(t)
	for _, g := range []api.Logger{g, changed(g, func(g *api.Logger) { g.G.Next = 4 }), changed(g, func(g *api.Logger) { g.At = 30 })} {
		wantNoCommit(t, "no power", cut(g), api.ErrDead)
	}
}
