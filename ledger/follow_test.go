package ledger_test

import (
	"fmt"
	"math/rand"
	"testing"

	"tabulary/api"
	"tabulary/ledger"
)

// P17.3: what is dropped changes nothing of the state, whatever is dropped, and in whichever order.
func TestDropsLeaveTheState(t *testing.T) {
	r := rand.New(rand.NewSource(21))
	for many := range 50 {
		l := ledger.New()
		for range many {
			l, _ = ledger.Add(l, anyText(r), anyOne(r))
		}
		want, text := ledger.State(l), ledger.Text(ledger.State(l))
		dropped := 0
		for _, i := range r.Perm(many) {
			next, e := ledger.Drop(l, i)
			if ledger.State(next) != want || ledger.Text(ledger.State(next)) != text || !ledger.Right(next) {
				t.Errorf("%d of %d: another state", i, many)
			}
			if e == api.OK {
				dropped++
			}
			if e == api.OK == l.L[i].B.Keep || ledger.Same(l, next) != l.L[i].B.Keep {
				t.Errorf("%d of %d: %d", i, many, e)
			}
			l = next
		}
		if many > 20 && dropped < many/2 {
			t.Errorf("%d of %d dropped alone", dropped, many)
		}
	}
}

// P17.3: so it is of a full log.
func TestDropsLeaveTheStateOfFull(t *testing.T) {
	events := eventsOf(4096)
	l := logOf(events)
	want := ledger.State(l)
	for i := 0; i < 4096; i += 373 {
		next, e := ledger.Drop(l, i)
		if (e == api.OK) == events[i].B.Keep || ledger.State(next) != want {
			t.Errorf("%d: %d", i, e)
		}
		l = next
	}
	if got := ledger.State(logOf(thinned(events))); got != want {
		t.Errorf("each third one: %+v, not %+v", got, want)
	}
}

// P17.3: what is added to a log of which some were dropped has the state that it has without these deletions.
func TestDropsLeaveLaterStates(t *testing.T) {
	r := rand.New(rand.NewSource(22))
	whole, thin := ledger.New(), ledger.New()
	for many := range 120 {
		s, b := anyText(r), anyOne(r)
		whole, _ = ledger.Add(whole, s, b)
		thin, _ = ledger.Add(thin, s, b)
		thin, _ = ledger.Drop(thin, r.Intn(many+1))
		if ledger.State(whole) != ledger.State(thin) || !ledger.Right(thin) {
			t.Fatalf("%d: another state", many)
		}
	}
	if ledger.Same(whole, thin) {
		t.Error("nothing was dropped")
	}
}

// P17.3: what was added first is first: each event stays at its place, and its links too.
func TestOrder(t *testing.T) {
	r := rand.New(rand.NewSource(23))
	l, texts := ledger.New(), []string(nil)
	var links []api.Hash
	for i := range 200 {
		s := fmt.Sprint(r.Intn(50))
		l, _ = ledger.Add(l, s, briefOfOne(i))
		texts, links = append(texts, s), append(links, l.Links[i+1])
	}
	for i, x := range l.L {
		if x.S != texts[i] || x.B != briefOfOne(i) || x.Gone || l.Links[i+1] != links[i] {
			t.Errorf("%d: %+v", i, x)
		}
	}
}

// P17.3: another order of events, another event, one more or one fewer is another state.
func TestUnlikeLogsUnlikeStates(t *testing.T) {
	seen := map[api.State]int{}
	heads, roots := map[api.Hash]int{}, map[api.Hash]int{}
	tell := func(i int, l []api.Slot) {
		s := ledger.State(logOf(l))
		for _, k := range []int{seen[s], heads[s.Head], roots[s.Root.H]} {
			if k > 0 {
				t.Errorf("%d and %d: one state", i, k)
			}
		}
		seen[s], heads[s.Head], roots[s.Root.H] = i, i, i
	}
	events := eventsOf(6)
	i := 0
	next := func(l []api.Slot) {
		i++
		tell(i, l)
	}
	for many := range 7 {
		next(events[:many])
	}
	for k := 1; k < 6; k++ {
		next(exchanged(events, 0, k))
		next(events[k:])
	}
	for k, x := range events {
		next(replaced(events, k, liveOf(x.S+"!", x.B)))
		for _, b := range changesOfBrief(x.B) {
			next(replaced(events, k, liveOf(x.S, b)))
		}
	}
}

// P17.3: two states have one text just if they are the same: those that are unlike in one number or byte have unlike texts.
func TestTextsToldApart(t *testing.T) {
	r := rand.New(rand.NewSource(24))
	for _, s := range []api.State{{}, stateOf(nil), stateOf(eventsOf(4)), anyState(r)} {
		text := ledger.Text(s)
		same := s
		if ledger.Text(same) != text {
			t.Errorf("%+v: two texts", s)
		}
		var others []api.State
		for _, n := range append(farNumbers(), s.N+1, s.N-1, s.N+256, s.N+1<<32, s.N-1<<62) {
			others = append(others, api.State{N: n, Root: s.Root, Head: s.Head})
		}
		for i := range 32 {
			root, head := s, s
			root.Root.H[i] ^= 1 << (i % 8)
			head.Head[i] ^= 1 << (i % 8)
			others = append(others, root, head)
		}
		for _, b := range changesOfBrief(s.Root.B) {
			others = append(others, api.State{N: s.N, Root: api.Node{H: s.Root.H, B: b}, Head: s.Head})
		}
		others = append(others, api.State{N: s.N, Root: api.Node{H: s.Head, B: s.Root.B}, Head: s.Root.H})
		for _, x := range others {
			if (ledger.Text(x) == text) != (x == s) {
				t.Errorf("%+v and %+v: %v", s, x, x != s)
			}
		}
	}
}

// P17.3: a state is told by its text, and its text by it.
func TestTextAndParse(t *testing.T) {
	r := rand.New(rand.NewSource(25))
	for range 3000 {
		s := anyState(r)
		text := ledger.Text(s)
		got, e := ledger.Parse(text)
		if got != s || e != api.OK || ledger.Text(got) != text {
			t.Errorf("%+v: %+v, %d", s, got, e)
		}
	}
}
