package scene_test

import (
	"fmt"
	"math/rand"
	"slices"
	"strings"
	"testing"

	"tabulary/api"
	"tabulary/keys"
	"tabulary/scene"
)

// anyConf is a configuration with little room, many keys or few.
func anyConf(r *rand.Rand) api.Conf {
	return api.Conf{
		Many: []int{3, 30, 60, 120}[r.Intn(4)], Size: []int{96, 97, 128, 200}[r.Intn(4)],
		K: api.Keys{Seed: fmt.Sprint("seed ", r.Intn(99)), Height: r.Intn(5), Bits: 1 + r.Intn(6)},
		R: api.Rule{Grave: r.Intn(9) - 1, Bytes: 40 + r.Intn(60), Events: []int{0, 4, 20, 4096}[r.Intn(4)]},
	}
}

// anyAct is an act, more often a message than another one; a crash, if these may be.
func anyAct(r *rand.Rand, crashes bool) api.Act {
	switch r.Intn(16) {
	case 0:
		return commit()
	case 1, 2:
		return keep()
	case 3, 4:
		return drop(r.Intn(9) - 1)
	case 5:
		return take(noMessages()[r.Intn(len(noMessages()))])
	case 6:
		return kind([]int{-1, 5, 9}[r.Intn(3)])
	case 7:
		if !crashes {
			return commit()
		}
		var keep []int
		for range r.Intn(9) {
			keep = append(keep, []int{200, 200, 128, r.Intn(200), r.Intn(3) - 1}[r.Intn(5)])
		}
		return crash(keep...)
	}
	return take(messageOf(r.Intn(8), strings.Repeat("m", r.Intn(80))))
}

// anyActs are so many acts.
func anyActs(r *rand.Rand, many int, crashes bool) []api.Act {
	var l []api.Act
	for range many {
		l = append(l, anyAct(r, crashes))
	}
	return l
}

// P20.3 (T1): without crashes what is told is what a plain row of events tells: numbers, texts, states, and each refusal.
func TestPlainRow(t *testing.T) {
	r := rand.New(rand.NewSource(1))
	seen := map[api.Errno]int{}
	for range 200 {
		p := playOf(t, anyConf(r))
		p.do(t, anyActs(r, 50, false)...)
		for _, x := range p.told {
			seen[x.E]++
		}
		for i, x := range p.g.L.L {
			if s := p.w.l[i].S; x.S != s || x.Gone != (s == "") {
				t.Errorf("%d: %+v; not %q", i, x, s)
			}
		}
	}
	for _, e := range []api.Errno{api.OK, api.ErrArg, api.ErrForm, api.ErrBig, api.ErrNone, api.ErrFull, api.ErrKeys, api.ErrKept, api.ErrGone} {
		if seen[e] < 30 {
			t.Errorf("too little by chance: %v", seen)
		}
	}
}

// copyOfPlay is a play that goes on by itself.
func copyOfPlay(p *play) *play {
	w := *p.w
	w.recs, w.l, w.at = slices.Clone(w.recs), slices.Clone(w.l), slices.Clone(w.at)
	return &play{g: copyOf(p.g), w: &w, root: p.root, told: slices.Clone(p.told)}
}

// keepsOf are all that a crash may keep of so many writes, of these numbers each; and of fewer.
func keepsOf(writes int, numbers ...int) [][]int {
	out := [][]int{nil}
	if writes == 0 {
		return out
	}
	for _, keep := range keepsOf(writes-1, numbers...) {
		for _, n := range numbers {
			out = append(out, slices.Concat([]int{n}, keep))
		}
	}
	return out
}

// longPlay are acts behind each of which at most four writes aren't synced; all texts are unlike.
func longPlay() []api.Act {
	return few(
		take(messageOf(1, "one")), take(messageOf(5, "two")), take(longMessage(6, 100)), keep(),
		take(messageOf(7, "four")), take(messageOf(3, "five")), drop(3), take(longMessage(4, 99)), commit(),
		take(messageOf(5, "seven")), drop(0), crash(128), take(messageOf(0, "eight")), take(messageOf(5, "nine")), drop(2), drop(1),
		take(messageOf(6, "ten")), commit(), commit(), take(messageOf(6, "eleven")), take(messageOf(6, "twelve")),
	)
}

// P20.4 (T2): crashes at each place of a play, with each Keep of few writes, in part too: the events behind it are a beginning of those that were taken, with all that were there when a sync, a state or a deletion was told last.
func TestCrashAtEachPlace(t *testing.T) {
	p := playOf(t, ourConf())
	kept, found := 0, map[int]int{}
	for place, a := range longPlay() {
		p.do(t, a)
		if x := p.told[place]; x.E == api.OK && a.Kind != api.AIngest {
			kept = len(p.g.L.L)
		}
		for _, keep := range keepsOf(len(p.g.D.W), -1, 0, 1, 69, 103, 106, 128, 129) {
			what := fmt.Sprintf("behind %d, %v", place, keep)
			other := copyOfPlay(p)
			other.do(t, crash(keep...))
			l := other.g.L.L
			if many := len(l); many < kept || many > len(p.g.L.L) || !slices.Equal(l, p.g.L.L[:many]) {
				t.Fatalf("%s: %d events of %d, %d kept", what, many, len(p.g.L.L), kept)
			}
			found[len(p.g.L.L)-len(l)]++
		}
	}
	if len(found) < 4 {
		t.Errorf("too little: %v", found)
	}
}

// P20.4 (T2): of each write each number of bytes.
func TestCrashKeepsEachByte(t *testing.T) {
	p := playOf(t, ourConf())
	p.do(t, take(messageOf(1, "kept")), commit(), take(longMessage(3, 100)), take(messageOf(3, "last")))
	for n := -1; n <= 130; n++ {
		for _, keep := range [][]int{{n}, {n, 128, 128}, {128, n}, {128, n, 128}, {128, 128, n}, {n, n, n}} {
			other := copyOfPlay(p)
			other.do(t, crash(keep...), take(messageOf(4, "behind")))
		}
	}
}

// P20.4, P20.5, P20.6 (T2, T3, T4): any plays with crashes, held against the row: what was kept is there, no key signs twice, each state is taken, what was deleted stays so.
func TestAnyPlay(t *testing.T) {
	r := rand.New(rand.NewSource(2))
	crashes, states, gone, lost := 0, 0, 0, 0
	for range 150 {
		p := playOf(t, anyConf(r))
		l := anyActs(r, 80, true)
		used, want := map[int]int{}, api.Auditor{Keys: p.root, Height: p.w.c.K.Height, Bits: p.w.c.K.Bits}
		for _, a := range l {
			there := len(p.g.L.L)
			p.do(t, a)
			x := p.told[len(p.told)-1]
			switch {
			case a.Kind == api.ACrash:
				crashes++
				lost += there - len(p.g.L.L)
			case a.Kind == api.ACommit && x.E == api.OK:
				states++
				used[x.X.G.Key]++
				want.Has, want.S = true, x.X.S
			}
		}
		for _, x := range p.g.L.L {
			if x.Gone {
				gone++
			}
		}
		for key, many := range used {
			if many > 1 {
				t.Errorf("key %d signed %d times", key, many)
			}
		}
		if a, many, e := scene.Watch(p.w.c, l); e != api.OK || many != len(used) || a != want {
			t.Errorf("%d, %d states, %+v; not %d, %+v", e, many, a, len(used), want)
		}
	}
	if crashes < 400 || states < 200 || gone < 100 || lost < 200 {
		t.Errorf("too little by chance: %d, %d, %d, %d", crashes, states, gone, lost)
	}
}

// P20.5 (T3): crashes between all acts, whatever they keep: keys are used from the first one on, each once; the state of each is that of the events then.
func TestKeysOnce(t *testing.T) {
	for _, keep := range [][]int{nil, {128}, {0, 128}, {128, 20}, {-1, 5}} {
		c := with(ourConf(), func(c *api.Conf) { c.K.Height = 3 })
		var l []api.Act
		for i := range 10 {
			l = append(l, take(messageOf(i%8, fmt.Sprint(i))), crash(keep...), commit(), crash(keep...), take(longMessage(5, 100)))
		}
		_, told := wantPlayed(t, fmt.Sprint(keep), c, l)
		next := 0
		for i, x := range told {
			if l[i].Kind == api.ACommit && (next < 8 && (x.E != api.OK || x.X.G.Key != next) || next >= 8 && x.E != api.ErrKeys) {
				t.Errorf("%v, act %d: %+v", keep, i, x)
			}
			if l[i].Kind == api.ACommit && x.E == api.OK {
				next++
			}
		}
		if a, many, e := scene.Watch(c, l); e != api.OK || many != 8 || next != 8 || a.Keys != keys.Root(c.K) {
			t.Errorf("%v: %d, %d, %+v", keep, e, many, a)
		}
	}
}

// P20.6 (T4): what was deleted, as was told, stays so behind each crash, no byte of it is left, and the states are those of a log in which it stands.
func TestDeletedStays(t *testing.T) {
	secrets := []string{"a secret", strings.Repeat("long secret ", 5), "another secret"}
	var ahead []api.Act
	for i, s := range secrets {
		ahead = append(ahead, take(messageOf(3+i, s)), take(messageOf(5, fmt.Sprint("plain ", i))))
	}
	later := few(take(messageOf(6, "later")), take(longMessage(6, 90)), take(messageOf(6, "last")))
	for _, between := range [][]api.Act{nil, few(keep()), few(commit()), few(crash(slices.Repeat([]int{128}, 9)...))} {
		for _, gone := range [][]int{{0}, {2}, {4}, {0, 2}, {4, 0}, {4, 2, 0}} {
			p := playOf(t, with(ourConf(), func(c *api.Conf) { c.R.Events = 20 }))
			p.do(t, ahead...)
			p.do(t, between...)
			stays := copyOfPlay(p)
			for _, i := range gone {
				p.do(t, drop(i))
			}
			stays.do(t, keep())
			p.do(t, later...)
			stays.do(t, later...)
			for _, keep := range keepsOf(4, 60, 128) {
				one, other := copyOfPlay(p), copyOfPlay(stays)
				one.do(t, crash(keep...), commit())
				other.do(t, crash(keep...), commit())
				for i, s := range secrets {
					want := 1
					if slices.Contains(gone, 2*i) {
						want = 0
					}
					if x, n := one.g.L.L[2*i], scene.Bytes(one.g, messageOf(3+i, s)); x.Gone != (want == 0) || n != want || scene.Bytes(one.g, s) < want || want == 0 && scene.Bytes(one.g, s) > 0 {
						t.Errorf("%v gone, %v kept: %+v, in %d", gone, keep, x, n)
					}
				}
				if x, y := one.told[len(one.told)-1], other.told[len(other.told)-1]; x.X.S != y.X.S || x.X.S.N < 6 {
					t.Errorf("%v gone, %v kept: %+v; not %+v", gone, keep, x.X.S, y.X.S)
				}
			}
		}
	}
}

// P20.7 (T5): a crash behind a sync, a state or a deletion changes nothing of the log, nor does one behind it.
func TestCrashBehindSync(t *testing.T) {
	for _, l := range [][]api.Act{nil, someActs(), waitingActs(), longPlay()[:11]} {
		for _, a := range []api.Act{keep(), commit(), drop(len(l) / 5)} {
			p := playOf(t, ourConf())
			p.do(t, l...)
			was := len(p.told)
			p.do(t, a)
			if p.told[was].E != api.OK {
				p.do(t, keep())
			}
			g := copyOf(p.g)
			for _, keep := range [][]int{nil, {0}, {128, 128, 128}, {-1, 64}} {
				p.do(t, crash(keep...))
				wantSame(t, fmt.Sprintf("%+v, then %v", a, keep), p.g, g)
			}
		}
	}
}

// P20.7 (T5): acts that are refused change nothing of what is told of the others, nor the logger.
func TestRefusedChangeNothing(t *testing.T) {
	r := rand.New(rand.NewSource(3))
	refused := 0
	for range 100 {
		c, l := anyConf(r), anyActs(r, 40, true)
		g, told, _ := scene.Play(c, l)
		var done []api.Act
		var want []api.Told
		for i, x := range told {
			if x.E == api.OK {
				done, want = append(done, l[i]), append(want, x)
			}
		}
		refused += len(l) - len(done)
		other, got, e := scene.Play(c, done)
		if e != api.OK || !slices.EqualFunc(got, want, isSameTold) {
			t.Errorf("%d: %+v; not %+v", e, got, want)
		}
		wantSame(t, "without those that are refused", other, g)
	}
	if refused < 500 {
		t.Errorf("too little by chance: %d", refused)
	}
}
