package scene_test

import (
	"fmt"
	"math"
	"math/rand"
	"slices"
	"strings"
	"testing"

	"tabulary/api"
	"tabulary/scene"
)

// eachKind are acts of each kind, some of which are refused.
func eachKind() []api.Act {
	l := few(take(messageOf(3, "new")), take(messageOf(0, "")), take("no message"), take(longMessage(3, 100)), take(longMessage(3, 101)), commit(), keep())
	l = append(l, drop(-1), drop(0), drop(1), drop(2), drop(3), drop(4), crash(), crash(128), crash(10), kind(-1), kind(5))
	return l
}

// P20.1: each kind of act by itself, on a log without events, and on one with some; all fields of which that kind doesn't speak are set, too.
func TestEachKind(t *testing.T) {
	for _, l := range [][]api.Act{nil, someActs(), few(commit()), few(take(messageOf(5, "a"))), few(crash())} {
		for _, a := range eachKind() {
			p := playOf(t, ourConf())
			p.do(t, l...)
			p.do(t, a)
			if a.Kind != api.AIngest {
				a.S = messageOf(6, "none that is asked for")
			}
			if a.Kind != api.ADelete {
				a.I = 1
			}
			if a.Kind != api.ACrash {
				a.Keep = []int{128}
			}
			p = playOf(t, ourConf())
			p.do(t, l...)
			p.do(t, a)
		}
	}
}

// P20.1: what is told of each kind, laid by hand.
func TestToldByHand(t *testing.T) {
	c := ourConf()
	p := playOf(t, c)
	p.do(t, take(messageOf(1, "a")), take(messageOf(5, "b")), commit(), keep(), drop(1), crash(), take(messageOf(5, "c")), commit(), kind(5), drop(9))
	for i, w := range []struct {
		e         api.Errno
		i, n, key int
	}{{0, 0, -1, 0}, {0, 1, -1, 0}, {0, 0, 2, 0}, {0, 0, -1, 0}, {0, 0, -1, 0}, {0, 0, -1, 0}, {0, 2, -1, 0}, {0, 0, 3, 1}, {1, 0, -1, 0}, {5, 0, -1, 0}} {
		x := p.told[i]
		if x.E != w.e || x.I != w.i || x.X.G.Key != w.key {
			t.Errorf("%d: %+v", i, x)
		}
		if w.n < 0 && !isNoState(x.X) || w.n >= 0 && (x.X.S.N != w.n || len(x.X.G.L) != 2*c.K.Bits || len(x.X.G.Path) != c.K.Height) {
			t.Errorf("%d: %+v", i, x)
		}
	}
	if !p.g.L.L[1].Gone || p.g.L.L[0].Gone || p.g.L.L[2].S != messageOf(5, "c") || p.g.G.Next != 2 {
		t.Error(inWords(p.g))
	}
}

// A refusal is an act that is refused behind others, and by which error.
type refusal struct {
	what  string
	c     api.Conf
	ahead []api.Act
	a     api.Act
	e     api.Errno
}

// refusals are such of each error, and such where several apply.
func refusals() []refusal {
	c := ourConf()
	noRoom := with(c, func(c *api.Conf) { c.R.Events = 0 })
	oneKey := with(c, func(c *api.Conf) { c.K.Height = 0 })
	small := with(c, func(c *api.Conf) { c.Many, c.K.Height = 2, 0 })
	one, two := take(messageOf(1, "kept")), take(messageOf(5, "not kept"))
	long := strings.Repeat("x", 101)
	return []refusal{
		{"too long", c, nil, take(longMessage(5, 101)), api.ErrBig},
		{"too long, no message", c, nil, take(long), api.ErrBig},
		{"too long, no room", noRoom, nil, take(long), api.ErrBig},
		{"no message", c, nil, take("<9>1"), api.ErrForm},
		{"nothing", c, few(one), take(""), api.ErrForm},
		{"no message, no room", noRoom, nil, take("<9>1"), api.ErrForm},
		{"no room by the rule", noRoom, nil, two, api.ErrFull},
		{"no room on the disk", small, few(one, two), two, api.ErrFull},
		{"no room on the disk for two sectors", small, few(one), take(longMessage(5, 100)), api.ErrFull},
		{"no key", oneKey, few(one, commit()), commit(), api.ErrKeys},
		{"no key, no room", small, few(one, commit()), commit(), api.ErrKeys},
		{"no room for a state", small, few(one, two), commit(), api.ErrFull},
		{"none, of none", c, nil, drop(0), api.ErrNone},
		{"none, below", c, few(two), drop(-1), api.ErrNone},
		{"none, above", c, few(two), drop(1), api.ErrNone},
		{"none, the least number", c, few(two), drop(math.MinInt), api.ErrNone},
		{"none, the greatest one", c, few(two), drop(math.MaxInt), api.ErrNone},
		{"none, no room", small, few(one, two), drop(2), api.ErrNone},
		{"kept", c, few(two, one), drop(1), api.ErrKept},
		{"kept, no room", small, few(one, two), drop(0), api.ErrKept},
		{"gone", c, few(one, two, drop(1)), drop(1), api.ErrGone},
		{"gone, behind a crash", c, few(one, two, drop(1), crash()), drop(1), api.ErrGone},
		{"no room for a deletion", small, few(two), drop(0), api.ErrFull},
		{"lost", c, few(two, crash()), drop(0), api.ErrNone},
	}
}

// P20.1, P20.7: each error of Ingest, Commit, Sync and Delete, as chapter 18 orders them: nothing else is told, and the logger is as it was.
func TestRefused(t *testing.T) {
	for _, r := range refusals() {
		p := playOf(t, r.c)
		p.do(t, r.ahead...)
		was := copyOf(p.g)
		p.do(t, r.a)
		if x := p.told[len(p.told)-1]; x.E != r.e || x.I != 0 || !isNoState(x.X) {
			t.Errorf("%s: %+v; not %d", r.what, x, r.e)
		}
		wantSame(t, r.what, p.g, was)
	}
}

// P20.1, P20.7: without power all is refused by that ahead of all else, but a crash, which gives it back.
func TestDead(t *testing.T) {
	for _, r := range refusals() {
		p := playOf(t, r.c)
		p.do(t, r.ahead...)
		p.g, p.w.off = cut(p.g), true
		was := copyOf(p.g)
		for _, a := range []api.Act{r.a, take(messageOf(5, "")), commit(), keep(), drop(0), take(""), drop(-1)} {
			p.do(t, a)
			if x := p.told[len(p.told)-1]; x.E != api.ErrDead || x.I != 0 || !isNoState(x.X) {
				t.Errorf("%s: %+v", r.what, x)
			}
			wantSame(t, r.what, p.g, was)
		}
		p.do(t, crash(128, 128, 128), take(messageOf(5, "")))
		if p.g.D.Off {
			t.Errorf("%s: no power behind a crash", r.what)
		}
	}
}

// P20.1: other kinds are refused by ErrArg, with power and without it.
func TestOtherKinds(t *testing.T) {
	for _, n := range append(farNumbers(), -1, 5, 9, 255, 256) {
		for _, l := range [][]api.Act{nil, someActs()} {
			a := api.Act{Kind: n, S: messageOf(5, "a"), I: 1, Keep: []int{128}}
			p := playOf(t, ourConf())
			p.do(t, l...)
			was := copyOf(p.g)
			p.do(t, a)
			if x := p.told[len(p.told)-1]; x.E != api.ErrArg || x.I != 0 || !isNoState(x.X) {
				t.Errorf("%d: %+v", n, x)
			}
			wantSame(t, fmt.Sprint(n), p.g, was)
			if g, x := scene.Do(cut(was), a); x.E != api.ErrArg || !isSame(g, cut(was)) {
				t.Errorf("%d, without power: %+v", n, x)
			}
		}
	}
}

// P20.1, P20.7: a crash of a logger whose disk, keys or rule may not be: Recover's error, and the logger as it was.
func TestCrashRefused(t *testing.T) {
	g := behind(began(t, ourConf()), someActs()...)
	var wrong []api.Logger
	for _, k := range wrongKeys() {
		wrong = append(wrong, changed(g, func(g *api.Logger) { g.G.K = k }))
	}
	for _, r := range wrongRules() {
		wrong = append(wrong, changed(g, func(g *api.Logger) { g.R = r }))
	}
	for _, n := range append(farNumbers(), -1, 0, 95, 127, 129, 1025) {
		wrong = append(wrong, changed(g, func(g *api.Logger) { g.D.Size = n }))
	}
	for _, l := range [][]string{nil, {""}, {g.D.Kept[0], "short"}, slices.Repeat(g.D.Kept[:1], 4097)} {
		wrong = append(wrong, changed(g, func(g *api.Logger) { g.D.Kept = l }))
	}
	wrong = append(wrong, api.Logger{})
	for _, g := range wrong {
		for _, a := range []api.Act{crash(), crash(128, 128), crash(5, -1)} {
			for _, g := range []api.Logger{g, cut(g)} {
				was := hold(g)
				got, x := scene.Do(was.g, a)
				if x.E != api.ErrArg || x.I != 0 || !isNoState(x.X) {
					t.Errorf("%s: %+v", inWords(g), x)
				}
				wantSame(t, "refused", got, g)
				spoil(got)
				was.wantUntouched(t, "refused, then spoilt")
			}
		}
	}
}

// P20.1: acts end and none panics, at loggers that aren't right, too.
func TestAnyLogger(t *testing.T) {
	r := rand.New(rand.NewSource(20))
	g := behind(began(t, ourConf()), someActs()...)
	numbers := append(farNumbers(), -1, 0, 1, 2, 3, 5, 96, 127, 129, 1024)
	number := func() int { return numbers[r.Intn(len(numbers))] }
	changes := []func(g *api.Logger){
		func(g *api.Logger) { g.D.Size = number() }, func(g *api.Logger) { g.D.Kept = g.D.Kept[:r.Intn(len(g.D.Kept)+1)] },
		func(g *api.Logger) { g.D.W = append(g.D.W, api.Write{At: number(), S: "a"}) }, func(g *api.Logger) { g.D.Kept = append(g.D.Kept, "short") },
		func(g *api.Logger) { g.At = number() }, func(g *api.Logger) { g.Recs = nil }, func(g *api.Logger) { g.Recs = slices.Repeat([]int{number()}, r.Intn(9)) },
		func(g *api.Logger) { g.G.Next = number() }, func(g *api.Logger) { g.G.K.Height = number() }, func(g *api.Logger) { g.G.K.Bits = number() },
		func(g *api.Logger) { g.L.L = g.L.L[:r.Intn(len(g.L.L)+1)] }, func(g *api.Logger) { g.L.L = append(g.L.L, api.Slot{S: "a"}) },
		func(g *api.Logger) { g.L.Links = g.L.Links[:r.Intn(len(g.L.Links)+1)] }, func(g *api.Logger) { g.L.Links = append(g.L.Links, api.Hash{1}, api.Hash{2}) },
		func(g *api.Logger) { g.R.Grave = number() }, func(g *api.Logger) { g.R.Bytes = number() }, func(g *api.Logger) { g.R.Events = number() },
		func(g *api.Logger) { *g = api.Logger{} }, func(g *api.Logger) { g.D.Off = true },
	}
	acts := append(eachKind(), drop(1), drop(3), take(messageOf(6, "x")), crash(number(), number()))
	for range 4000 {
		wrong := copyOf(g)
		for range 1 + r.Intn(3) {
			changes[r.Intn(len(changes))](&wrong)
		}
		was := hold(wrong)
		got, x := scene.Do(was.g, acts[r.Intn(len(acts))])
		was.wantUntouched(t, "not right")
		if x.E != api.OK && (x.I != 0 || !isNoState(x.X) || !isSame(got, wrong)) {
			t.Errorf("%+v; %s; not %s", x, inWords(got), inWords(wrong))
		}
		scene.Bytes(got, "x")
	}
}

// P20.1: no list that is handed in is written into, within its length or behind it; and what is answered is changed by nothing that is done later, nor is what was handed in.
func TestNothingShared(t *testing.T) {
	for _, l := range [][]api.Act{nil, someActs(), few(take(messageOf(5, "a")), keep(), drop(0))} {
		for _, a := range eachKind() {
			what := fmt.Sprintf("%+v behind %d", a, len(l))
			was := hold(behind(began(t, ourConf()), l...))
			room := append(slices.Clone(a.Keep), -7, -8)
			kept := slices.Clone(room)
			a.Keep = room[:len(a.Keep)]
			g, x := scene.Do(was.g, a)
			one, told := copyOf(g), copyOfTold(x)
			behind(g, eachKind()...)
			wantSame(t, what+", gone on from", g, one)
			other, y := scene.Do(was.g, a)
			wantSame(t, what+", done again", other, g)
			spoil(other)
			spoilTold(y)
			wantSame(t, what+", another answer spoilt", g, one)
			if !isSameTold(x, told) {
				t.Errorf("%s: spoilt", what)
			}
			was.wantUntouched(t, what)
			if !slices.Equal(room, kept) {
				t.Errorf("%s: written into %v", what, room)
			}
			spoil(was.g)
			wantSame(t, what+", what was handed in spoilt", g, one)
		}
	}
}
