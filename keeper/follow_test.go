package keeper_test

import (
	"fmt"
	"math/rand"
	"strings"
	"testing"

	"tabulary/api"
	"tabulary/disk"
	"tabulary/keeper"
	"tabulary/ledger"
	"tabulary/store"
)

// A play is a logger, and what is known of it.
type play struct {
	r     *rand.Rand
	g     api.Logger
	taken []api.Slot // what was taken, as it was
	kept  int        // how many of these are synced
	gone  []int      // which of these were deleted
	keys  []int      // which keys signed a state that was told
}

// do does something, and fails the test, unless the logger is right then, and tells just what is known of it.
func (p *play) do(t *testing.T) {
	t.Helper()
	was := copyOf(p.g)
	e := p.act(t)
	switch {
	case e != api.OK:
		wantSame(t, fmt.Sprint("refused by ", e), p.g, was)
	case !keeper.Right(p.g):
		t.Fatal("not right")
	}
	want := append([]api.Slot(nil), p.taken...)
	for _, i := range p.gone {
		want[i] = goneOf(want[i])
	}
	if !ledger.Same(p.g.L, logOf(want)) || ledger.State(p.g.L) != stateOf(p.taken) {
		t.Fatalf("another log: %s", toldOf(p.g))
	}
}

// act is one of the calls, or a crash.
func (p *play) act(t *testing.T) (e api.Errno) {
	t.Helper()
	switch p.r.Intn(12) {
	case 0:
		if p.g, e = keeper.Sync(p.g); e == api.OK {
			p.kept = len(p.taken)
		}
	case 1:
		key := p.g.G.Next
		var x api.Signed
		if p.g, x, e = keeper.Commit(p.g); e == api.OK {
			if !isSignedBy(p.g.G.K, key, x) || x.S != stateOf(p.taken) {
				t.Fatalf("%+v, not signed with %d", x.S, key)
			}
			p.kept, p.keys = len(p.taken), append(p.keys, x.G.Key)
		}
	case 2, 3:
		i := p.r.Intn(len(p.taken) + 1)
		if p.g, e = keeper.Delete(p.g, i); e == api.OK {
			p.kept, p.gone = len(p.taken), append(p.gone, i)
		}
	case 4:
		p.crash(t)
	default:
		grave, s := p.r.Intn(8), strings.Repeat("m", p.r.Intn(90))
		var place int
		if p.g, place, e = keeper.Ingest(p.g, messageOf(grave, s)); e == api.OK {
			if place != len(p.taken) {
				t.Fatalf("%d, not %d", place, len(p.taken))
			}
			p.taken = append(p.taken, slotOf(grave, s, p.g.R))
		}
	}
	return e
}

// crash takes some of the writes, and finds the logger again.
func (p *play) crash(t *testing.T) {
	t.Helper()
	var keep []int
	for range p.r.Intn(len(p.g.D.W) + 2) {
		keep = append(keep, []int{0, p.g.D.Size, p.g.D.Size, p.r.Intn(p.g.D.Size)}[p.r.Intn(4)])
	}
	found, e := keeper.Recover(disk.Crash(p.g.D, keep), p.g.G.K, p.g.R)
	if e != api.OK {
		t.Fatal(e)
	}
	again, e := keeper.Recover(found.D, p.g.G.K, p.g.R)
	wantDone(t, "found again", again, e, found)
	if many := len(found.L.L); many < p.kept || many > len(p.taken) {
		t.Fatalf("%d found of %d taken, %d synced", many, len(p.taken), p.kept)
	}
	for _, key := range p.keys {
		if found.G.Next <= key {
			t.Fatalf("key %d was used, %d is next", key, found.G.Next)
		}
	}
	p.g, p.taken = found, p.taken[:len(found.L.L)]
	p.kept = len(p.taken)
}

// P18.5: a right logger stays right; what was synced is found again; what is found is a beginning of what was taken; no key is found that was used in a state that was told.
func TestPlays(t *testing.T) {
	r := rand.New(rand.NewSource(31))
	taken, gone, keys := 0, 0, 0
	for i := range 150 {
		many, size := []int{10, 40, 200}[i%3], []int{96, 150, 1024}[r.Intn(3)]
		rule := api.Rule{Grave: r.Intn(5) - 1, Bytes: 60 + r.Intn(60), Events: r.Intn(40)}
		p := play{r: r, g: began(t, many, size, ourKeys(r.Intn(5)), rule)}
		for range 60 {
			p.do(t)
		}
		taken, gone, keys = taken+len(p.taken), gone+len(p.gone), keys+len(p.keys)
	}
	if taken < 500 || gone < 100 || keys < 200 {
		t.Errorf("too little by chance: %d, %d, %d", taken, gone, keys)
	}
}

// parts are all that a crash may keep of two writes of a sector, in steps, and all of the others.
func parts(size, writes int) [][]int {
	out := [][]int{nil}
	for i := range writes {
		for n := 0; n <= size; n += 5 {
			keep := make([]int, writes)
			for k := range keep {
				keep[k] = size
			}
			keep[i] = n
			out = append(out, keep, keep[:i+1])
		}
	}
	return out
}

// P18.5: a crash while a state's record is written, that isn't told then: its key is used, or it is not.
func TestCrashWithinCommit(t *testing.T) {
	g := committed(t, ingested(t, began(t, 9, 96, ourKeys(2), ourRule()), messageOf(3, "a")))
	used := map[int]int{}
	d := waiting(g.D, g.At, rowOf(96, stateText(1)))
	for _, keep := range parts(96, 1) {
		got, e := keeper.Recover(disk.Crash(d, keep), g.G.K, g.R)
		if e != api.OK || !ledger.Same(got.L, g.L) || got.G.Next < 1 || got.G.Next > 2 || got.At != g.At+got.G.Next-1 {
			t.Errorf("%v: %d, %s", keep, e, toldOf(got))
		}
		used[got.G.Next]++
	}
	if used[1] == 0 || used[2] == 0 {
		t.Error(used)
	}
}

// P18.5: a crash within a deletion: while its record is written, ahead of the wiping, while that is done.
func TestCrashWithinDelete(t *testing.T) {
	g, _ := keeper.Sync(ingested(t, began(t, 20, 96, ourKeys(0), ourRule()), messageOf(3, "one"), messageOf(4, strings.Repeat("secret", 9)), messageOf(5, "two")))
	after := deleted(t, g, 1)
	gone := map[bool]int{}
	row := rowOf(96, deletionText(1, g.L.L[1]))
	for _, keep := range parts(96, len(row)) {
		got, e := keeper.Recover(disk.Crash(waiting(g.D, g.At, row), keep), g.G.K, g.R)
		want := g
		if got.L.L[1].Gone {
			want = after
		}
		wantDone(t, fmt.Sprint("the record ", keep), got, e, want)
		gone[got.L.L[1].Gone]++
	}
	if gone[true] == 0 || gone[false] == 0 {
		t.Error(gone)
	}
	written := onto(g.D, g.At, row)
	got, e := keeper.Recover(written, g.G.K, g.R)
	wantDone(t, "ahead of the wiping", got, e, after)
	for _, keep := range [][]int{nil, {0}, {1}} {
		got, e := keeper.Recover(disk.Crash(waiting(written, g.Recs[1], []string{"\xa2"}), keep), g.G.K, g.R)
		if e != api.OK || !ledger.Same(got.L, after.L) || got.At != after.At {
			t.Errorf("the mark %v: %d, %s", keep, e, toldOf(got))
		}
	}
	marked := settled(waiting(written, g.Recs[1], []string{"\xa2"}))
	for _, keep := range parts(96, 2) {
		d := disk.Crash(waiting(marked, g.Recs[1], wipedOf(96, eventText(g.L.L[1].S))), keep)
		got, e := keeper.Recover(d, g.G.K, g.R)
		if e != api.OK || !ledger.Same(got.L, after.L) || got.At != after.At || !isSameDisk(got.D, d) {
			t.Errorf("the wiping %v: %d, %s", keep, e, toldOf(got))
		}
	}
}

// P18.5: a crash while a disk is cleaned by New, or by Recover: records that stood there aren't found behind those that come.
func TestCrashBehindNew(t *testing.T) {
	used := someLogger(t)
	g, _ := keeper.New(used.D, used.G.K, used.R)
	for i := range 4 {
		got, e := keeper.Recover(disk.Crash(g.D, nil), g.G.K, g.R)
		if e != api.OK || len(got.L.L) != i || got.G.Next != 0 {
			t.Errorf("%d: %d, %s", i, e, toldOf(got))
		}
		g, _ = keeper.Sync(ingested(t, g, messageOf(i, "new")))
	}
	// A message whose record is lost, and one behind it that isn't: neither is found, nor when others are written there.
	lost := ingested(t, g, messageOf(3, ""), messageOf(3, "behind"))
	need := len(lost.D.W) / 2
	keep := make([]int, 2*need)
	for i := range need {
		keep[need+i] = 128
	}
	got, e := keeper.Recover(disk.Crash(lost.D, keep), g.G.K, g.R)
	wantDone(t, "neither", got, e, g)
	other, _ := keeper.Sync(ingested(t, got, messageOf(4, "")))
	got, e = keeper.Recover(other.D, g.G.K, g.R)
	wantDone(t, "another one in its place", got, e, other)
}

// P18.5: behind each call that is synced all is found again as it was, whatever a crash keeps.
func TestSyncedIsFound(t *testing.T) {
	g := someLogger(t)
	synced, _ := keeper.Sync(g)
	for i, g := range []api.Logger{synced, committed(t, g), deleted(t, g, 1), deleted(t, committed(t, g), 3), began(t, 9, 96, ourKeys(1), ourRule())} {
		for _, keep := range [][]int{nil, {0}, {96, 96, 96}} {
			got, e := keeper.Recover(disk.Crash(g.D, keep), g.G.K, g.R)
			wantDone(t, fmt.Sprint(i), got, e, g)
		}
		if rec, end, _ := store.Load(g.D); end != g.At || i < 4 && len(rec) == 0 {
			t.Errorf("%d: records to %d, not %d", i, end, g.At)
		}
	}
}
