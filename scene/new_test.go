package scene_test

import (
	"fmt"
	"math"
	"strings"
	"testing"

	"tabulary/api"
	"tabulary/scene"
)

// rightConfs are configurations that may be, at each edge.
func rightConfs() []api.Conf {
	c := ourConf()
	out := []api.Conf{c}
	for _, n := range [][2]int{{1, 96}, {4096, 1024}, {1, 1024}, {4096, 96}, {2, 97}, {4095, 1023}} {
		out = append(out, with(c, func(c *api.Conf) { c.Many, c.Size = n[0], n[1] }))
	}
	for _, k := range []api.Keys{{Bits: 1}, {Seed: strings.Repeat("s", 256), Bits: 4}, {Seed: "\x00\xff", Bits: 256}, {Height: 6, Bits: 1}, {Height: 5, Bits: 2}} {
		out = append(out, with(c, func(c *api.Conf) { c.K = k }))
	}
	for grave := -1; grave <= 7; grave++ {
		out = append(out, with(c, func(c *api.Conf) { c.R.Grave = grave }))
	}
	for _, n := range []int{1, 2, 4095, 4096} {
		out = append(out, with(c, func(c *api.Conf) { c.R.Bytes = n }), with(c, func(c *api.Conf) { c.R.Events = n }))
	}
	return append(out, with(c, func(c *api.Conf) { c.R.Events = 0 }))
}

// wrongConfs are configurations that may not be, each by one thing, or by all.
func wrongConfs() []api.Conf {
	c := ourConf()
	out := []api.Conf{{}, {Many: -1, Size: -1, K: api.Keys{Height: -1}, R: api.Rule{Grave: -2}}}
	for _, n := range append(farNumbers(), -1, 0, 4097) {
		out = append(out, with(c, func(c *api.Conf) { c.Many = n }))
	}
	for _, n := range append(farNumbers(), -1, 0, 1, 95, 1025) {
		out = append(out, with(c, func(c *api.Conf) { c.Size = n }))
	}
	for _, k := range wrongKeys() {
		out = append(out, with(c, func(c *api.Conf) { c.K = k }))
	}
	for _, r := range wrongRules() {
		out = append(out, with(c, func(c *api.Conf) { c.R = r }))
	}
	return out
}

// P20.1: New is a logger with an empty disk, an empty log, all keys left, and the rule.
func TestNew(t *testing.T) {
	for _, c := range rightConfs() {
		g, e := scene.New(c)
		if e != api.OK {
			t.Errorf("%+v: %d", c, e)
		}
		w := row{c: c}
		wantSame(t, fmt.Sprintf("%+v", c), g, w.logger())
		again, _ := scene.New(c)
		spoil(again)
		wantSame(t, fmt.Sprintf("%+v, another one spoilt", c), g, w.logger())
	}
}

// P20.1, P20.2: what may not be is refused by New, and by Play and Watch, whatever acts there are.
func TestNewRefused(t *testing.T) {
	for _, c := range wrongConfs() {
		if g, e := scene.New(c); e != api.ErrArg || !isNone(g) {
			t.Errorf("%+v: %d, %s", c, e, inWords(g))
		}
		for _, l := range [][]api.Act{nil, someActs(), few(commit()), few(kind(9), take("")), few(crash(1, 2, 3))} {
			if g, told, e := scene.Play(c, l); e != api.ErrArg || !isNone(g) || len(told) > 0 {
				t.Errorf("%+v: %d, %s, %+v", c, e, inWords(g), told)
			}
			if a, n, e := scene.Watch(c, l); e != api.ErrArg || n != 0 || a != (api.Auditor{}) {
				t.Errorf("%+v: %d, %d, %+v", c, e, n, a)
			}
		}
	}
}

// P20.1: one sector, the least one, takes a message, and no other; a state's record of 90 bytes, too, but not both.
func TestOneSector(t *testing.T) {
	c := with(ourConf(), func(c *api.Conf) { c.Many, c.Size = 1, 96 })
	p := playOf(t, c)
	p.do(t, take(messageOf(5, "")), commit(), commit(), keep(), crash(), kind(math.MaxInt))
	if p.told[0].E != api.ErrFull || p.told[1].E != api.OK || p.told[2].E != api.ErrFull || p.g.G.Next != 1 {
		t.Errorf("%+v", p.told)
	}
	p = playOf(t, with(c, func(c *api.Conf) { c.Size = 100 }))
	p.do(t, take(messageOf(5, "")), take(messageOf(5, "")), commit(), drop(0), crash(99), take(messageOf(5, "")), crash(0), take(messageOf(4, "")))
	if p.told[0].E != api.OK || p.told[1].E != api.ErrFull || p.told[2].E != api.ErrFull || p.told[3].E != api.ErrFull || p.told[5].E != api.ErrFull || p.told[7].E != api.ErrFull {
		t.Errorf("%+v", p.told)
	}
	p = playOf(t, with(c, func(c *api.Conf) { c.Size = 100 }))
	p.do(t, take(messageOf(5, "")), crash(), take(messageOf(4, "")), crash(100))
	if len(p.g.L.L) != 1 || p.g.L.L[0].B.Grave != 16 {
		t.Errorf("%+v", p.g.L.L)
	}
}
