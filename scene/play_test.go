package scene_test

import (
	"fmt"
	"math"
	"slices"
	"testing"

	"tabulary/api"
	"tabulary/scene"
)

// plays are acts: none, one, many, and such that are refused between others.
func plays() [][]api.Act {
	out := [][]api.Act{nil, {}, someActs(), waitingActs(), all(someActs(), few(crash()), someActs(), few(crash(128), commit()))}
	for _, a := range eachKind() {
		out = append(out, few(a))
	}
	mixed := few(drop(0), take("no message"), kind(5))
	for i, a := range someActs() {
		mixed = append(mixed, a, drop(i+9), take(longMessage(3, 101)), drop(0), kind(-i-1), take(""))
	}
	return append(out, mixed, all(mixed, few(crash()), mixed, few(crash(-1, 128)), mixed), slices.Repeat(few(commit()), 7), slices.Repeat(few(take(messageOf(4, ""))), 12))
}

// wantPlayed fails the test, unless Play tells what has to be, act by act, and answers the logger that has to be.
func wantPlayed(t *testing.T, what string, c api.Conf, l []api.Act) (api.Logger, []api.Told) {
	t.Helper()
	p := playOf(t, c)
	g, told, e := scene.Play(c, l)
	if e != api.OK || len(told) != len(l) {
		t.Fatalf("%s: %d, %d told of %d", what, e, len(told), len(l))
	}
	for i, a := range l {
		p.wantTold(t, fmt.Sprintf("%s, act %d, %+v", what, i, a), told[i], p.w.do(a))
	}
	wantSame(t, what, g, p.w.logger())
	return g, told
}

// P20.1: Play does all acts, in order, and tells of each; the logger is that behind the last one.
func TestPlay(t *testing.T) {
	for i, l := range plays() {
		for _, c := range []api.Conf{ourConf(), with(ourConf(), func(c *api.Conf) { c.Many, c.Size, c.K.Height = 4, 96, 0 })} {
			wantPlayed(t, fmt.Sprint(i), c, l)
		}
	}
}

// P20.1: acts in two parts, the second one done to the logger of the first: the same as all at once.
func TestPlayInParts(t *testing.T) {
	for i, l := range plays() {
		whole, told, _ := scene.Play(ourConf(), l)
		for part := range len(l) + 1 {
			what := fmt.Sprintf("%d, %d of %d", i, part, len(l))
			g, ahead, e := scene.Play(ourConf(), l[:part])
			if e != api.OK || len(ahead) != part {
				t.Fatalf("%s: %d, %d told", what, e, len(ahead))
			}
			for _, a := range l[part:] {
				var x api.Told
				g, x = scene.Do(g, a)
				ahead = append(ahead, x)
			}
			if !slices.EqualFunc(ahead, told, isSameTold) {
				t.Errorf("%s: %+v; not %+v", what, ahead, told)
			}
			wantSame(t, what, g, whole)
		}
	}
}

// P20.1, P20.2: no list that is handed in is written into; what is answered hangs on nothing that is done later.
func TestPlayShares(t *testing.T) {
	for i, l := range plays() {
		what := fmt.Sprint(i)
		keeps := slices.Repeat([]int{-7}, 8)
		room := append(slices.Clone(l), kind(77), kind(78))
		for j, a := range l {
			if a.Kind == api.ACrash {
				copy(keeps, a.Keep)
				room[j].Keep = keeps[:len(a.Keep)]
			}
		}
		acts, was := slices.Clone(room), slices.Clone(keeps)
		g, told, _ := scene.Play(ourConf(), room[:len(l)])
		one, other := copyOf(g), slices.Clone(told)
		for j, x := range told {
			other[j] = copyOfTold(x)
		}
		if a, _, e := scene.Watch(ourConf(), room[:len(l)]); e != api.OK {
			t.Errorf("%s: %d, %+v", what, e, a)
		}
		behind(g, eachKind()...)
		again, list, _ := scene.Play(ourConf(), room[:len(l)])
		spoil(again)
		for _, x := range list {
			spoilTold(x)
		}
		wantSame(t, what+", another answer spoilt", g, one)
		if !slices.EqualFunc(told, other, isSameTold) {
			t.Errorf("%s: spoilt", what)
		}
		same := func(a, b api.Act) bool {
			return a.Kind == b.Kind && a.S == b.S && a.I == b.I && slices.Equal(a.Keep, b.Keep)
		}
		if !slices.EqualFunc(room, acts, same) || !slices.Equal(keeps, was) {
			t.Errorf("%s: written into %+v, %v", what, room, keeps)
		}
	}
}

// someTold has something in each of its fields.
func someTold() api.Told {
	g := api.Sig{Key: 2, L: []api.Hash{{1}, {2}, {3}}, Path: []api.Hash{{4}, {5}}}
	return api.Told{E: api.ErrArg, I: 3, X: api.Signed{S: stateOf(nil), G: g}}
}

// P20.1: Same: the same in all, or not.
func TestSame(t *testing.T) {
	one := someTold()
	for i, change := range []func(x *api.Told){
		func(x *api.Told) { x.E = api.OK }, func(x *api.Told) { x.E = math.MinInt }, func(x *api.Told) { x.E += 1 << 32 },
		func(x *api.Told) { x.I = 0 }, func(x *api.Told) { x.I = -3 }, func(x *api.Told) { x.I += 1 << 32 }, func(x *api.Told) { x.I = math.MaxInt },
		func(x *api.Told) { x.X.S.N++ }, func(x *api.Told) { x.X.S.N += 1 << 32 }, func(x *api.Told) { x.X.S.N = math.MinInt },
		func(x *api.Told) { x.X.S.Root.H[0] ^= 1 }, func(x *api.Told) { x.X.S.Root.H[31] ^= 1 },
		func(x *api.Told) { x.X.S.Root.B.First++ }, func(x *api.Told) { x.X.S.Root.B.Last-- }, func(x *api.Told) { x.X.S.Root.B.Grave = 1 },
		func(x *api.Told) { x.X.S.Root.B.From = 1 }, func(x *api.Told) { x.X.S.Root.B.Many = 1 << 63 }, func(x *api.Told) { x.X.S.Root.B.Keep = true },
		func(x *api.Told) { x.X.S.Head[0] ^= 128 }, func(x *api.Told) { x.X.S.Head[31] ^= 1 },
		func(x *api.Told) { x.X.G.Key = 0 }, func(x *api.Told) { x.X.G.Key = -2 }, func(x *api.Told) { x.X.G.Key += 1 << 32 },
		func(x *api.Told) { x.X.G.L[0][0] ^= 1 }, func(x *api.Told) { x.X.G.L[1][15] ^= 1 }, func(x *api.Told) { x.X.G.L[2][31] ^= 1 },
		func(x *api.Told) { x.X.G.L = x.X.G.L[:2] }, func(x *api.Told) { x.X.G.L = x.X.G.L[1:] }, func(x *api.Told) { x.X.G.L = append(x.X.G.L, api.Hash{}) },
		func(x *api.Told) { x.X.G.L = nil }, func(x *api.Told) { x.X.G.L[0], x.X.G.L[1] = x.X.G.L[1], x.X.G.L[0] },
		func(x *api.Told) { x.X.G.Path[0][0] ^= 1 }, func(x *api.Told) { x.X.G.Path[1][31] ^= 1 }, func(x *api.Told) { x.X.G.Path = x.X.G.Path[:1] },
		func(x *api.Told) { x.X.G.Path = append(x.X.G.Path, api.Hash{}) }, func(x *api.Told) { x.X.G.Path = nil },
		func(x *api.Told) { x.X.G.L, x.X.G.Path = x.X.G.Path, x.X.G.L }, func(x *api.Told) { *x = api.Told{} },
	} {
		other := copyOfTold(someTold())
		if !scene.Same(one, other) || !scene.Same(other, one) {
			t.Errorf("%d: the same ones", i)
		}
		change(&other)
		if scene.Same(one, other) || scene.Same(other, one) || !scene.Same(other, other) {
			t.Errorf("%d: unlike ones", i)
		}
	}
	empty := api.Told{X: api.Signed{G: api.Sig{L: []api.Hash{}, Path: []api.Hash{}}}}
	if !scene.Same(empty, api.Told{}) || !scene.Same(api.Told{}, empty) {
		t.Error("a list without elements, or nil")
	}
}

// P20.1: what is told twice of the same acts is the same, and of others it isn't.
func TestSameOfPlays(t *testing.T) {
	_, one, _ := scene.Play(ourConf(), someActs())
	_, other, _ := scene.Play(ourConf(), someActs())
	for i, x := range one {
		for j, y := range other {
			if scene.Same(x, y) != isSameTold(x, y) || i == j && !scene.Same(x, y) {
				t.Errorf("%d, %d: %v", i, j, scene.Same(x, y))
			}
		}
	}
	for _, c := range []api.Conf{with(ourConf(), func(c *api.Conf) { c.K.Seed = "other" }), with(ourConf(), func(c *api.Conf) { c.R.Grave = 0 })} {
		if _, l, _ := scene.Play(c, someActs()); scene.Same(one[3], l[3]) || !scene.Same(one[2], l[2]) {
			t.Errorf("%+v", c)
		}
	}
}
