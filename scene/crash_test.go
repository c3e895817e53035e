package scene_test

import (
	"fmt"
	"math"
	"slices"
	"testing"

	"tabulary/api"
	"tabulary/scene"
)

// waitingActs lead to one event that is synced, and three that aren't: their records are written in one sector, in two, and in one.
func waitingActs() []api.Act {
	return few(take(messageOf(1, "kept")), keep(), take(messageOf(3, "one")), take(longMessage(4, 100)), take(messageOf(5, "three")))
}

// P20.1: what a crash keeps, by hand: as many events as are whole, up to the first one that isn't.
func TestCrashKeeps(t *testing.T) {
	// The first record ends at the 103rd byte of its sector, the second one at the 54th of its second one, the third one at the 105th.
	for _, x := range []struct {
		keep []int
		many int
	}{
		{nil, 1}, {[]int{}, 1}, {[]int{0}, 1}, {[]int{0, 0, 0, 0}, 1}, {[]int{-1, -1, -1, -1}, 1}, {[]int{math.MinInt, math.MinInt}, 1},
		{[]int{128, 128, 128, 128}, 4}, {[]int{129, 1024, math.MaxInt, 128}, 4}, {[]int{128, 128, 128, 128, 128, 128, 1}, 4}, {[]int{128, 128, 128, 128, -1, 0}, 4},
		{[]int{128}, 2}, {[]int{128, 128}, 2}, {[]int{128, 128, 128}, 3}, {[]int{0, 128, 128, 128}, 1}, {[]int{-5, 128, 128, 128}, 1},
		{[]int{128, 0, 128, 128}, 2}, {[]int{128, 128, 0, 128}, 2}, {[]int{128, 128, -9, 128}, 2}, {[]int{128, 128, 128, 0}, 3}, {[]int{128, 128, 128, math.MinInt}, 3},
		{[]int{103}, 2}, {[]int{102}, 1}, {[]int{69}, 1}, {[]int{1}, 1}, {[]int{103, 128, 54, 105}, 4}, {[]int{103, 128, 53, 105}, 2}, {[]int{103, 127, 54, 105}, 2}, {[]int{103, 128, 54, 104}, 3},
	} {
		p := playOf(t, ourConf())
		p.do(t, waitingActs()...)
		p.do(t, crash(x.keep...))
		if last := p.told[len(p.told)-1]; last.E != api.OK || len(p.g.L.L) != x.many || len(p.g.D.W) != 0 {
			t.Errorf("%v: %d, %s; not %d events", x.keep, last.E, inWords(p.g), x.many)
		}
		// What comes behind goes on from there.
		p.do(t, take(messageOf(5, "behind")), commit())
		if told := p.told[len(p.told)-2:]; told[0].I != x.many || told[1].X.S.N != x.many+1 {
			t.Errorf("%v: %+v", x.keep, told)
		}
	}
}

// P20.1: a crash behind a sync, and ahead of all; and one crash behind the other.
func TestCrashTwice(t *testing.T) {
	keeps := [][]int{nil, {128}, {128, 128, 128, 128}, {0, 128}, {-1}, {128, 10}}
	for _, one := range keeps {
		for _, two := range keeps {
			p := playOf(t, ourConf())
			p.do(t, crash(one...), crash(two...))
			p.do(t, waitingActs()...)
			p.do(t, crash(one...))
			was := copyOf(p.g)
			p.do(t, crash(two...))
			wantSame(t, fmt.Sprintf("%v behind %v", two, one), p.g, was)
			p.do(t, take(messageOf(6, "new")), crash(one...), take(messageOf(6, "")), crash(two...), keep(), crash(one...), crash(two...))
		}
	}
}

// P20.1: the keys and the rule are those of before, whatever they are.
func TestCrashKeepsKeysAndRule(t *testing.T) {
	for _, k := range []api.Keys{{Bits: 1}, {Seed: "another", Height: 3, Bits: 9}, {Seed: "\xff\x00", Height: 1, Bits: 2}} {
		for _, r := range []api.Rule{{Grave: -1, Bytes: 50, Events: 4}, {Grave: 7, Bytes: 4096, Events: 4096}, {Grave: 4, Bytes: 100, Events: 3}} {
			p := playOf(t, with(ourConf(), func(c *api.Conf) { c.K, c.R = k, r }))
			for range 3 {
				p.do(t, take(messageOf(4, "a")), take(messageOf(5, "b")), take(longMessage(3, 51)), take(longMessage(3, 101)), commit(), drop(0), crash(128))
				if p.g.G.K != k || p.g.R != r {
					t.Errorf("%+v, %+v", p.g.G.K, p.g.R)
				}
			}
		}
	}
}

// P20.1: a key that was used is not used once more, whatever crashes keep, till none is left.
func TestCrashKeepsKeysUsed(t *testing.T) {
	for _, keep := range [][]int{nil, {128, 128}, {0}, {10}} {
		p := playOf(t, ourConf())
		var used []int
		for range 5 {
			p.do(t, crash(keep...), take(messageOf(5, "")), commit(), crash(keep...))
			if x := p.told[len(p.told)-2]; x.E == api.OK {
				used = append(used, x.X.G.Key)
			}
		}
		if !slices.Equal(used, []int{0, 1, 2, 3}) || p.told[len(p.told)-2].E != api.ErrKeys {
			t.Errorf("%v: %v", keep, used)
		}
	}
}

// P20.1: the number of a message that is taken behind a crash: as many events as are left.
func TestNumberBehindCrash(t *testing.T) {
	for many := range 5 {
		for kept := range many + 1 {
			p := playOf(t, ourConf())
			for range many {
				p.do(t, take(messageOf(5, "")))
			}
			p.do(t, crash(slices.Repeat([]int{128}, kept)...), take(messageOf(4, "")), take(messageOf(3, "")))
			if l := p.told[many:]; l[0].E != api.OK || l[0].I != 0 || l[1].I != kept || l[2].I != kept+1 {
				t.Errorf("%d of %d: %+v", kept, many, l)
			}
		}
	}
}

// The example of the whole: two messages, a crash that keeps nothing: no events; a sync ahead of it: two.
func TestExample(t *testing.T) {
	l := few(take("<34>1 - h a - - - hi"), take("<35>1 - h a - - - ho"))
	g, told, e := scene.Play(ourConf(), append(l, crash()))
	if e != api.OK || len(told) != 3 || len(g.L.L) != 0 {
		t.Errorf("%d, %s", e, inWords(g))
	}
	g, told, e = scene.Play(ourConf(), append(l, keep(), crash()))
	if e != api.OK || len(told) != 4 || len(g.L.L) != 2 || g.L.L[1].S != l[1].S {
		t.Errorf("%d, %s", e, inWords(g))
	}
}
