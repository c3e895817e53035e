package scene

import (
	"iter"
	"testing"

	"tabulary/api"
	"tabulary/audit"
	"tabulary/keys"
)

// A tale is a state that is told, and the logger that proves it.
type tale struct {
	g api.Logger
	x api.Signed
}

// tellers are two logs of the same keys, unlike from the second message on, one of which nobody should keep.
func tellers(t *testing.T) (one, other []tale, a api.Auditor) {
	t.Helper()
	c := api.Conf{Many: 40, Size: 128, K: api.Keys{Seed: "seed", Height: 3, Bits: 64}, R: api.Rule{Grave: -1, Bytes: 60, Events: 9}}
	both := [2][]tale{}
	for i, texts := range [2][]string{{"a", "b", "c", "d"}, {"a", "x", "y", "z"}} {
		g, e := New(c)
		if e != api.OK {
			t.Fatal(e)
		}
		for _, text := range texts {
			g, _ = Do(g, api.Act{Kind: api.AIngest, S: "<9>1 - h - - - - " + text})
			var x api.Told
			g, x = Do(g, api.Act{Kind: api.ACommit})
			both[i] = append(both[i], tale{g: g, x: x.X})
		}
	}
	a, e := audit.New(keys.Root(c.K), c.K.Height, c.K.Bits)
	if e != api.OK {
		t.Fatal(e)
	}
	return both[0], both[1], a
}

// tales goes through what is told.
func tales(l ...tale) iter.Seq2[api.Logger, api.Signed] {
	return func(yield func(g api.Logger, x api.Signed) bool) {
		for _, s := range l {
			if !yield(s.g, s.x) {
				return
			}
		}
	}
}

// P20.2: the first error of taking a state, all states are counted, and it goes on from the last one that was taken. No act leads to an error here: so this is told two logs by hand.
func TestWatched(t *testing.T) {
	one, other, a := tellers(t)
	unsigned := tale{g: one[2].g, x: api.Signed{S: one[2].x.S}}
	for i, x := range []struct {
		l    []tale
		e    api.Errno
		last tale
	}{
		{[]tale{one[0], one[1], one[2], one[3]}, api.OK, one[3]},
		{[]tale{one[0], other[3]}, api.OK, other[3]},
		{[]tale{one[1], other[1], one[2]}, api.ErrFork, one[2]},
		{[]tale{one[1], one[0], other[1], one[3]}, api.ErrOld, one[3]},
		{[]tale{one[1], other[1], one[0], one[3]}, api.ErrFork, one[3]},
		{[]tale{one[1], other[3], one[2]}, api.ErrProof, one[2]},
		{[]tale{one[1], one[2], other[3]}, api.ErrProof, one[2]},
		{[]tale{one[1], other[3], unsigned, one[1], one[0]}, api.ErrProof, one[1]},
		{[]tale{unsigned, one[1], other[1]}, api.ErrSig, one[1]},
		{[]tale{one[2], unsigned, one[2], one[3], other[0]}, api.ErrSig, one[3]},
	} {
		want := a
		want.Has, want.S = true, x.last.x.S
		got, many, e := watched(a, tales(x.l...))
		if e != x.e || many != len(x.l) || got != want {
			t.Errorf("%d: %d, %d states, N %d; not %d, %d, N %d", i, e, many, got.S.N, x.e, len(x.l), want.S.N)
		}
	}
	if got, many, e := watched(a, tales(unsigned, unsigned)); e != api.ErrSig || many != 2 || got != a {
		t.Errorf("none that is taken: %d, %d, %+v", e, many, got)
	}
	if got, many, e := watched(a, tales()); e != api.OK || many != 0 || got != a {
		t.Errorf("none: %d, %d, %+v", e, many, got)
	}
}

// P20.2: what is gone through goes no further than is asked for.
func TestStops(t *testing.T) {
	g, _ := New(api.Conf{Many: 9, Size: 128, K: api.Keys{Height: 2, Bits: 1}, R: api.Rule{Bytes: 60, Events: 9}})
	l := []api.Act{{Kind: api.ACommit}, {Kind: api.ACommit}, {Kind: api.ACommit}}
	many := 0
	for range played(g, l) {
		if many++; many == 2 {
			break
		}
	}
	for _, x := range stated(played(g, l)) {
		if many++; x.G.Key == 1 {
			break
		}
	}
	if many != 4 {
		t.Error(many)
	}
}
