package keeper_test

import (
	"math"
	"math/rand"
	"slices"
	"strings"
	"testing"

	"tabulary/api"
	"tabulary/keeper"
	"tabulary/ledger"
)

// P18.1: rules that may be, in Right, New and Recover.
func TestRightRules(t *testing.T) {
	g := began(t, 3, 96, ourKeys(0), ourRule())
	for _, r := range rightRules() {
		if !keeper.Right(changed(g, func(g *api.Logger) { g.R = r })) {
			t.Errorf("%+v: not right", r)
		}
		want := changed(g, func(g *api.Logger) { g.R = r })
		got, e := keeper.New(empty(3, 96), ourKeys(0), r)
		wantDone(t, "New", got, e, want)
		got, e = keeper.Recover(empty(3, 96), ourKeys(0), r)
		wantDone(t, "Recover", got, e, want)
	}
}

// P18.1: rules that may not be, in Right, New and Recover; also where the power is gone.
func TestWrongRules(t *testing.T) {
	g := began(t, 3, 96, ourKeys(0), ourRule())
	for _, r := range wrongRules() {
		if keeper.Right(changed(g, func(g *api.Logger) { g.R = r })) {
			t.Errorf("%+v: right", r)
		}
		for _, off := range []bool{false, true} {
			d := empty(3, 96)
			d.Off = off
			wantNoLogger(t, "rule", d, ourKeys(0), r, api.ErrArg)
		}
	}
}

// wantNoLogger fails the test, unless New and Recover both answer that error and nothing.
func wantNoLogger(t *testing.T, what string, d api.Disk, k api.Keys, r api.Rule, want api.Errno) {
	t.Helper()
	got, e := keeper.New(d, k, r)
	wantRefused(t, what+": New", got, e, want, api.Logger{})
	got, e = keeper.Recover(d, k, r)
	wantRefused(t, what+": Recover", got, e, want, api.Logger{})
}

// P18.1: Right of loggers of each kind, with the power gone, too.
func TestRight(t *testing.T) {
	g := someLogger(t)
	for i, g := range []api.Logger{
		began(t, 1, 96, ourKeys(0), ourRule()), began(t, 4096, 1024, ourKeys(6), ourRule()), g,
		ingested(t, began(t, 3, 96, ourKeys(0), ourRule()), messageOf(0, "")),
		changed(g, func(g *api.Logger) { g.D.W = nil }),
		changed(g, func(g *api.Logger) { g.D.Kept[0] = g.D.Kept[9] }),
		changed(g, func(g *api.Logger) { g.D = empty(20, 1024) }),
	} {
		if !keeper.Right(g) || !keeper.Right(cut(g)) {
			t.Errorf("%d: not right: %s", i, toldOf(g))
		}
	}
}

// P18.1: Right with any sectors told in Recs, and with fewer Events than there are.
func TestRightAsksForNoMore(t *testing.T) {
	g := someLogger(t)
	for _, n := range append(farNumbers(), -1, 29, 30, 31) {
		if !keeper.Right(changed(g, func(g *api.Logger) { g.Recs[1] = n })) {
			t.Errorf("Recs with %d: not right", n)
		}
	}
	for n := range 5 {
		if !keeper.Right(changed(g, func(g *api.Logger) { g.R.Events = n; g.R.Bytes = 1 })) {
			t.Errorf("Events %d: not right", n)
		}
	}
}

// P18.1: Right with At at both ends, and behind them.
func TestRightAt(t *testing.T) {
	for _, many := range []int{1, 2, 30, 4096} {
		g := began(t, many, 96, ourKeys(0), ourRule())
		for _, at := range []int{0, 1, many / 2, many - 1, many} {
			if !keeper.Right(changed(g, func(g *api.Logger) { g.At = at })) {
				t.Errorf("At %d of %d: not right", at, many)
			}
		}
		for _, at := range append(farNumbers(), -1, many+1, many+2, 2*many+1) {
			if at != 4096 && keeper.Right(changed(g, func(g *api.Logger) { g.At = at })) {
				t.Errorf("At %d of %d: right", at, many)
			}
		}
	}
}

// P18.1: Right with Recs one fewer, one more, none.
func TestRightRecs(t *testing.T) {
	g := someLogger(t)
	for many := range 8 {
		other := changed(g, func(g *api.Logger) { g.Recs = make([]int, many) })
		if keeper.Right(other) != (many == 4) {
			t.Errorf("%d of 4: %v", many, many != 4)
		}
	}
	g = began(t, 3, 96, ourKeys(0), ourRule())
	if keeper.Right(changed(g, func(g *api.Logger) { g.Recs = []int{0} })) {
		t.Error("one of none: right")
	}
}

// P18.1: Right of a disk that isn't right.
func TestRightWrongDisk(t *testing.T) {
	g := began(t, 3, 96, ourKeys(0), ourRule())
	for i, d := range wrongDisks() {
		for _, off := range []bool{false, true} {
			d.Off = off
			if keeper.Right(changed(g, func(g *api.Logger) { g.D = d })) {
				t.Errorf("disk %d: right", i)
			}
			wantNoLogger(t, "disk", d, ourKeys(0), ourRule(), api.ErrArg)
		}
	}
}

// P18.1: Right of a signer: of each next key up to how many there are; not of another one, or of keys that aren't right.
func TestRightSigner(t *testing.T) {
	g := began(t, 3, 96, ourKeys(0), ourRule())
	for height := range 7 {
		many := 1 << height
		with := func(next int) api.Logger {
			return changed(g, func(g *api.Logger) { g.G = api.Signer{K: ourKeys(height), Next: next} })
		}
		for next := range many + 1 {
			if !keeper.Right(with(next)) {
				t.Errorf("Height %d: %d: not right", height, next)
			}
		}
		for _, next := range append(farNumbers(), -1, many+1, many+2, 2*many+1) {
			if keeper.Right(with(next)) {
				t.Errorf("Height %d: %d: right", height, next)
			}
		}
	}
	for _, k := range wrongKeys() {
		for _, next := range []int{0, 1, -1} {
			if keeper.Right(changed(g, func(g *api.Logger) { g.G = api.Signer{K: k, Next: next} })) {
				t.Errorf("%d, %d: right", k.Height, k.Bits)
			}
		}
		for _, off := range []bool{false, true} {
			d := empty(3, 96)
			d.Off = off
			wantNoLogger(t, "keys", d, k, ourRule(), api.ErrArg)
		}
	}
}

// P18.1: Right of a log that isn't right.
func TestRightWrongLog(t *testing.T) {
	g := someLogger(t)
	for i, change := range []func(g *api.Logger){
		func(g *api.Logger) { g.L.L[0].S += "x" }, func(g *api.Logger) { g.L.L[3].H[7] ^= 1 }, func(g *api.Logger) { g.L.L[2].S = "x" },
		func(g *api.Logger) { g.L.L[1].B.Many = 2 }, func(g *api.Logger) { g.L.L[1].B.Grave = 0 }, func(g *api.Logger) { g.L.L[2].B.Keep = true },
		func(g *api.Logger) { g.L.L[0].Gone = true }, func(g *api.Logger) { g.L.Links[0][0] ^= 1 }, func(g *api.Logger) { g.L.Links[4][31] ^= 1 },
		func(g *api.Logger) { g.L.Links = g.L.Links[:4] }, func(g *api.Logger) { g.L.Links = nil }, func(g *api.Logger) { g.L.Links = append(g.L.Links, api.Hash{}) },
		func(g *api.Logger) { g.L.L = g.L.L[:3]; g.Recs = g.Recs[:3] }, func(g *api.Logger) { g.L = api.Log{}; g.Recs = nil },
	} {
		if keeper.Right(changed(g, change)) {
			t.Errorf("%d: right", i)
		}
	}
	if keeper.Right(api.Logger{}) {
		t.Error("the zero value: right")
	}
}

// P18.1: New on an empty disk, on one that was used, with writes that aren't synced: all is 0, and synced.
func TestNew(t *testing.T) {
	r := rand.New(rand.NewSource(1))
	for _, many := range []int{1, 2, 30} {
		for _, size := range []int{96, 1024} {
			for _, writes := range []int{0, 1, 9} {
				wantNew(t, empty(many, size), ourKeys(2))
				wantNew(t, anyDisk(r, many, size, writes), api.Keys{Bits: 1})
				wantNew(t, anyDisk(r, many, size, writes), api.Keys{Seed: strings.Repeat("s", 256), Height: 6, Bits: 256})
			}
		}
	}
	wantNew(t, anyDisk(r, 4096, 96, 40), ourKeys(2))
	used := someLogger(t)
	got, e := keeper.New(used.D, used.G.K, used.R)
	wantDone(t, "on a used one", got, e, began(t, 30, 128, ourKeys(2), ourRule()))
}

// wantNew fails the test, unless New on a disk is a logger that has taken nothing yet, on bytes of 0.
func wantNew(t *testing.T, d api.Disk, k api.Keys) {
	t.Helper()
	want := api.Logger{D: empty(len(d.Kept), d.Size), G: api.Signer{K: k}, L: api.Log{Links: []api.Hash{hashOf(4)}}, R: ourRule()}
	got, e := keeper.New(d, k, ourRule())
	wantDone(t, "New", got, e, want)
}

// P18.1: New and Recover where the power is gone, and all else is right: ErrDead.
func TestNoLoggerWithoutPower(t *testing.T) {
	for _, d := range []api.Disk{empty(1, 96), empty(30, 128), someLogger(t).D} {
		d.Off = true
		wantNoLogger(t, "no power", d, ourKeys(2), ourRule(), api.ErrDead)
	}
}

// unlike are changes of a logger, each in one of all fields.
func unlike() map[string]func(g *api.Logger) {
	return map[string]func(g *api.Logger){
		"Size":             func(g *api.Logger) { g.D.Size++ },
		"the first sector": func(g *api.Logger) { g.D.Kept[0] = "\x01" + g.D.Kept[0][1:] },
		"the last sector":  func(g *api.Logger) { g.D.Kept[29] = g.D.Kept[29][:127] + "\x01" },
		"one sector fewer": func(g *api.Logger) { g.D.Kept = g.D.Kept[:29] },
		"one more":         func(g *api.Logger) { g.D.Kept = append(g.D.Kept, g.D.Kept[29]) },
		"a write's At":     func(g *api.Logger) { g.D.W[0].At++ },
		"its S":            func(g *api.Logger) { g.D.W[0].S = g.D.W[0].S[:127] + "\x01" },
		"one write fewer":  func(g *api.Logger) { g.D.W = g.D.W[:len(g.D.W)-1] },
		"one write more":   func(g *api.Logger) { g.D.W = append(g.D.W, g.D.W[0]) },
		"the power":        func(g *api.Logger) { g.D.Off = true },
		"At":               func(g *api.Logger) { g.At++ },
		"a sector told":    func(g *api.Logger) { g.Recs[0]++ },
		"the last one":     func(g *api.Logger) { g.Recs[3]++ },
		"one fewer":        func(g *api.Logger) { g.Recs = g.Recs[:3] },
		"another one more": func(g *api.Logger) { g.Recs = append(g.Recs, 0) },
		"the seed":         func(g *api.Logger) { g.G.K.Seed += "x" },
		"the height":       func(g *api.Logger) { g.G.K.Height++ },
		"the bits":         func(g *api.Logger) { g.G.K.Bits++ },
		"the next key":     func(g *api.Logger) { g.G.Next++ },
		"a text":           func(g *api.Logger) { g.L.L[0].S += "x" },
		"Gone":             func(g *api.Logger) { g.L.L[1].Gone = true },
		"a hash":           func(g *api.Logger) { g.L.L[2].H[31] ^= 1 },
		"a brief":          func(g *api.Logger) { g.L.L[3].B.Last++ },
		"an event fewer":   func(g *api.Logger) { g.L.L = g.L.L[:3] },
		"an event more":    func(g *api.Logger) { g.L.L = append(g.L.L, g.L.L[0]) },
		"the first link":   func(g *api.Logger) { g.L.Links[0][0] ^= 1 },
		"the last link":    func(g *api.Logger) { g.L.Links[4][31] ^= 1 },
		"a link fewer":     func(g *api.Logger) { g.L.Links = g.L.Links[:4] },
		"Grave":            func(g *api.Logger) { g.R.Grave++ },
		"Bytes":            func(g *api.Logger) { g.R.Bytes++ },
		"Events":           func(g *api.Logger) { g.R.Events++ },
	}
}

// P18.1: Same of a logger and itself, and of two that are unlike in one field.
func TestSame(t *testing.T) {
	g := someLogger(t)
	if !keeper.Same(g, copyOf(g)) || !keeper.Same(api.Logger{}, api.Logger{}) {
		t.Error("not the same")
	}
	for name, change := range unlike() {
		other := changed(g, change)
		if keeper.Same(g, other) || keeper.Same(other, g) {
			t.Errorf("%s: the same", name)
		}
		if !keeper.Same(other, copyOf(other)) {
			t.Errorf("%s: not the same as itself", name)
		}
	}
}

// P18.1: Same of lists without elements, nil or not.
func TestSameOfEmptyLists(t *testing.T) {
	a := api.Logger{}
	b := api.Logger{D: api.Disk{Kept: []string{}, W: []api.Write{}}, Recs: []int{}, L: api.Log{L: []api.Slot{}, Links: []api.Hash{}}}
	if !keeper.Same(a, b) || !keeper.Same(b, a) {
		t.Error("not the same")
	}
}

// R1: of loggers that aren't right the chapter doesn't speak; no call panics, and each ends.
func TestWrongLoggersPanicNowhere(t *testing.T) {
	g := someLogger(t)
	odd := []api.Logger{{}, {R: ourRule()}, {R: api.Rule{Grave: 7, Bytes: math.MaxInt, Events: math.MaxInt}}, {G: g.G, L: g.L, R: g.R}, {D: g.D, L: g.L, R: g.R}, {D: g.D, Recs: g.Recs, G: g.G, R: g.R}}
	for _, change := range unlike() {
		odd = append(odd, changed(g, change))
	}
	for _, d := range wrongDisks() {
		odd = append(odd, changed(g, func(g *api.Logger) { g.D = d }))
	}
	for _, k := range wrongKeys() {
		odd = append(odd, changed(g, func(g *api.Logger) { g.G.K = k }))
	}
	for _, r := range wrongRules() {
		odd = append(odd, changed(g, func(g *api.Logger) { g.R = r }))
	}
	for _, n := range append(farNumbers(), -1) {
		odd = append(odd, changed(g, func(g *api.Logger) { g.At = n }), changed(g, func(g *api.Logger) { g.G.Next = n }), changed(g, func(g *api.Logger) { g.Recs[1] = n }))
	}
	for many := range 4 {
		odd = append(odd, changed(g, func(g *api.Logger) { g.Recs = g.Recs[:many] }), changed(g, func(g *api.Logger) { g.L.Links = g.L.Links[:many] }))
	}
	for i, g := range odd {
		was := copyOf(g)
		keeper.Right(g)
		for _, s := range []string{"", messageOf(1, ""), messageOf(5, "b"), strings.Repeat("x", 5000)} {
			keeper.Ingest(g, s)
		}
		keeper.Commit(g)
		keeper.Sync(g)
		for _, n := range append(farNumbers(), -1, 0, 1, 2, 3, 4, 5) {
			keeper.Delete(g, n)
			keeper.Grown(g, n)
		}
		keeper.Recover(g.D, g.G.K, g.R)
		keeper.New(g.D, g.G.K, g.R)
		keeper.Same(g, was)
		if !isSame(g, was) {
			t.Errorf("%d: changed", i)
		}
	}
	many := api.Log{L: slices.Repeat(g.L.L[:1], 4097)}
	if p, hops, e := keeper.Grown(api.Logger{L: many}, 5); e != api.ErrArg || len(p.Old) != 0 || len(p.New) != 0 || len(hops) != 0 {
		t.Error(e)
	}
	if next, e := keeper.Delete(changed(g, func(g *api.Logger) { g.Recs = nil }), 1); e != api.ErrNone || ledger.State(next.L) != ledger.State(g.L) {
		t.Error(e)
	}
}
