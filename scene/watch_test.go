package scene_test

import (
	"fmt"
	"slices"
	"testing"

	"tabulary/api"
	"tabulary/keys"
	"tabulary/scene"
)

// watchedPlays are acts, and how many states are told of them, by hand.
func watchedPlays() []struct {
	l    []api.Act
	many int
} {
	two := few(take(messageOf(5, "a")), take(messageOf(6, "b")))
	return []struct {
		l    []api.Act
		many int
	}{
		{nil, 0}, {few(take(messageOf(5, "a"))), 0}, {all(two, few(keep(), drop(0), crash(), kind(9), take(""))), 0},
		{few(commit()), 1}, {few(commit(), commit()), 2}, {few(commit(), crash(), commit()), 2}, {all(few(commit()), two, few(commit())), 2},
		{all(two, few(commit())), 1}, {all(two, few(commit(), commit())), 2}, {all(two, few(commit(), commit(), commit(), commit(), commit(), commit())), 4},
		{all(two, few(commit()), two, few(commit()), two, few(commit())), 3}, {all(two, few(commit(), drop(0), commit(), drop(1), commit())), 3},
		{all(two, few(drop(0), drop(1), commit())), 1}, {all(two, few(commit(), crash(), commit())), 2},
		// Just as many events as the last state tells, behind a crash that kept nothing of those that came behind it; or other ones in their places.
		{all(two, few(commit()), two, few(crash(), commit())), 2}, {all(two, few(commit()), two, few(crash(128), commit())), 2},
		{all(two, few(commit(), take(messageOf(3, "lost")), crash(), take(messageOf(3, "other")), commit())), 2},
		{all(two, few(commit(), drop(0), crash(), take(messageOf(3, "other")), commit(), drop(2), drop(1), crash(), commit())), 3},
		{all(few(crash(), commit(), kind(1<<32+1), commit()), two, few(kind(-1), crash(128), commit(), crash(128), commit(), crash(), commit())), 4},
	}
}

// P20.2: how many states were told, and the auditor has the last one: that which Play tells.
func TestWatch(t *testing.T) {
	for i, x := range watchedPlays() {
		for _, k := range []api.Keys{ourConf().K, {Seed: "other", Height: 2, Bits: 256}, {Height: 2, Bits: 1}} {
			c := with(ourConf(), func(c *api.Conf) { c.K = k })
			want := api.Auditor{Keys: keys.Root(k), Height: k.Height, Bits: k.Bits}
			_, told := wantPlayed(t, fmt.Sprint(i), c, x.l)
			for _, y := range told {
				if len(y.X.G.L) > 0 {
					want.Has, want.S = true, y.X.S
				}
			}
			a, many, e := scene.Watch(c, x.l)
			if e != api.OK || many != x.many || a != want {
				t.Errorf("%d: %d, %d states, %+v; not %d, %+v", i, e, many, a, x.many, want)
			}
		}
	}
}

// P20.2: a state of no events, by hand.
func TestWatchEmpty(t *testing.T) {
	a, many, e := scene.Watch(ourConf(), few(commit()))
	want := api.State{Root: api.Node{H: hashOf(3)}, Head: hashOf(4)}
	if e != api.OK || many != 1 || !a.Has || a.S != want {
		t.Errorf("%d, %d, %+v", e, many, a)
	}
}

// P20.2: states that are refused by the one who keeps the log aren't told: no room, no keys.
func TestWatchRefused(t *testing.T) {
	l := few(take(messageOf(5, "a")), commit(), take(messageOf(5, "b")), commit())
	full := with(ourConf(), func(c *api.Conf) { c.Many = 2 })
	oneKey := with(ourConf(), func(c *api.Conf) { c.K.Height = 0 })
	for i, c := range []api.Conf{full, oneKey} {
		if a, many, e := scene.Watch(c, l); e != api.OK || many != 1 || a.S.N != 1 {
			t.Errorf("%d: %d, %d, %+v", i, e, many, a)
		}
	}
	if a, many, e := scene.Watch(with(full, func(c *api.Conf) { c.Many = 1 }), l); e != api.OK || many != 0 || a.Has || a.S != (api.State{}) {
		t.Errorf("%d, %d, %+v", e, many, a)
	}
}

// P20.2: as many events as may be in a small log, one state behind each message, all keys.
func TestWatchMany(t *testing.T) {
	c := api.Conf{Many: 200, Size: 128, K: api.Keys{Seed: "many", Height: 6, Bits: 2}, R: api.Rule{Grave: -1, Bytes: 100, Events: 70}}
	var l []api.Act
	for i := range 70 {
		l = append(l, take(messageOf(i%8, fmt.Sprint("event ", i))), commit())
	}
	a, many, e := scene.Watch(c, l)
	if e != api.OK || many != 64 || a.S.N != 64 {
		t.Errorf("%d, %d, %d", e, many, a.S.N)
	}
	var slots []api.Slot
	for _, x := range l[:128] {
		if slot, is := slotOf(x.S, c.R); is {
			slots = append(slots, slot)
		}
	}
	if len(slots) != 64 || a.S != stateOf(slots) {
		t.Errorf("%d, %+v", len(slots), a.S)
	}
	if _, many, e := scene.Watch(c, slices.Repeat(few(commit()), 64)); e != api.OK || many != 64 {
		t.Errorf("%d, %d", e, many)
	}
}
