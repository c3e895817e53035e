package brief_test

import (
	"math/rand"
	"testing"

	"tabulary/api"
	"tabulary/brief"
)

// anything is a query of all.
func anything() api.Query {
	return api.Query{First: low, Last: high, Grave: allBits, From: allBits}
}

// queries are queries of short rows of times, and of some bits.
func queries() []api.Query {
	var out []api.Query
	for first := int64(-3); first <= 3; first++ {
		for last := int64(-3); last <= 3; last++ {
			for _, bits := range []uint32{0, 1, 2, 3, 5, 1 << 7, 1 << 8, 1 << 23, 1 << 24, allGraves, allFroms, allBits} {
				out = append(out, api.Query{First: first, Last: last, Grave: bits, From: allFroms}, api.Query{First: first, Last: last, Grave: allGraves, From: bits})
			}
		}
	}
	return append(out, anything(), api.Query{}, api.Query{First: high, Last: low, Grave: allBits, From: allBits})
}

// smallEvents are events of the times of queries, with the edges of Grave and From.
func smallEvents() []api.Event {
	var out []api.Event
	for at := int64(-3); at <= 3; at++ {
		for _, x := range [][2]int{{0, 0}, {1, 1}, {2, 2}, {7, 23}, {0, 23}, {7, 0}, {3, 8}} {
			out = append(out, event(x[0], x[1], at))
		}
	}
	return out
}

// timesMeet: has a query one of these times? They are gone through one by one, so the query's may be far apart, but these not.
func timesMeet(q api.Query, first, last int64) bool {
	for at := first; at <= last; at++ {
		if q.First <= at && at <= q.Last {
			return true
		}
	}
	return false
}

// bitsMeet: have two a bit in common?
func bitsMeet(a, b uint32) bool {
	for i := range 32 {
		if a>>i%2 == 1 && b>>i%2 == 1 {
			return true
		}
	}
	return false
}

// P6.3: Match, of all small events and queries.
func TestMatch(t *testing.T) {
	for _, e := range smallEvents() {
		for _, q := range queries() {
			want := timesMeet(q, e.At, e.At) && q.Grave>>e.Grave%2 == 1 && q.From>>e.From%2 == 1
			if brief.Match(q, e) != want {
				t.Errorf("%+v, %d, %d, %d: not %v", q, e.Grave, e.From, e.At, want)
			}
		}
	}
}

// P6.3: Match, at both ends of a query's times, and with each bit alone.
func TestMatchEdges(t *testing.T) {
	for _, at := range edgeTimes() {
		e := event(3, 20, at)
		if q := (api.Query{First: at, Last: at, Grave: 8, From: 1 << 20}); !brief.Match(q, e) {
			t.Errorf("%+v", q)
		}
		if q := (api.Query{First: at, Last: high, Grave: 8, From: 1 << 20}); !brief.Match(q, e) {
			t.Errorf("%+v", q)
		}
		if q := (api.Query{First: at + 1, Last: high, Grave: 8, From: 1 << 20}); at != high && brief.Match(q, e) {
			t.Errorf("%+v", q)
		}
		if q := (api.Query{First: low, Last: at - 1, Grave: 8, From: 1 << 20}); at != low && brief.Match(q, e) {
			t.Errorf("%+v", q)
		}
	}
	for grave := range 8 {
		for from := range 24 {
			e := event(grave, from, 1)
			has := api.Query{First: 1, Last: 1, Grave: 1 << grave, From: 1 << from}
			lacksGrave, lacksFrom := has, has
			lacksGrave.Grave, lacksFrom.From = allBits-has.Grave, allBits-has.From
			if !brief.Match(has, e) || brief.Match(lacksGrave, e) || brief.Match(lacksFrom, e) {
				t.Errorf("%d, %d", grave, from)
			}
		}
	}
}

// P6.3: Match, of queries that ask for nothing, and of events that may not be, asked of by a query with all bits.
func TestMatchWrong(t *testing.T) {
	e := event(1, 1, 0)
	for _, q := range []api.Query{{}, {First: 1, Last: -1, Grave: allBits, From: allBits}, {First: high, Last: low, Grave: allBits, From: allBits}, {First: low, Last: high, From: allBits}, {First: low, Last: high, Grave: allBits}} {
		if brief.Match(q, e) {
			t.Errorf("%+v", q)
		}
	}
	for _, e := range wrongEvents() {
		if brief.Match(anything(), e) {
			t.Errorf("%d, %d", e.Grave, e.From)
		}
	}
}

// P6.3: May, of small briefs, right ones and others, and queries.
func TestMay(t *testing.T) {
	r := rand.New(rand.NewSource(63))
	for first := int64(-4); first <= 4; first++ {
		for last := int64(-4); last <= 4; last++ {
			for _, q := range queries() {
				b := api.Brief{First: first, Last: last, Grave: r.Uint32() >> r.Intn(33), From: r.Uint32() >> r.Intn(33), Many: uint64(r.Intn(4)), Keep: r.Intn(2) == 0}
				want := b.Many != 0 && timesMeet(q, first, last) && bitsMeet(q.Grave, b.Grave) && bitsMeet(q.From, b.From)
				if brief.May(q, b) != want {
					t.Errorf("%+v, %+v: not %v", q, b, want)
				}
			}
		}
	}
}

// P6.3: May, where times meet at one end, lie in one another, or are far apart.
func TestMayTimes(t *testing.T) {
	for _, x := range []struct {
		first, last, from, to int64
		want                  bool
	}{
		{low, low, low, high, true},
		{high, high, low, high, true},
		{low, low, low + 1, high, false},
		{high, high, low, high - 1, false},
		{-5, 5, 5, 9, true},
		{-5, 5, 6, 9, false},
		{-5, 5, -9, -5, true},
		{-5, 5, -9, -6, false},
		{-5, 5, -1, 1, true},
		{-1, 1, -5, 5, true},
		{low, high, 0, 0, true},
		{0, 0, low, high, true},
		{low, high, 1, 0, false},
		{1, 0, low, high, false},
		{high, low, low, high, false},
		{5, -5, 5, -5, false},
		{0, high, low, -1, false},
	} {
		b := api.Brief{First: x.first, Last: x.last, Grave: 1, From: 1, Many: 1}
		if q := (api.Query{First: x.from, Last: x.to, Grave: 1, From: 1}); brief.May(q, b) != x.want {
			t.Errorf("%+v", x)
		}
	}
}

// P6.3: May, of none, of all bits that are asked for but one, and of queries without bits.
func TestMayNot(t *testing.T) {
	hollow := api.Brief{First: low, Last: high, Grave: allBits, From: allBits, Keep: true}
	if brief.May(anything(), brief.None()) || brief.May(anything(), hollow) {
		t.Error("of none")
	}
	whole := api.Brief{First: low, Last: high, Grave: allGraves, From: allFroms, Many: 1}
	if !brief.May(anything(), whole) || !brief.May(api.Query{Grave: 1 << 7, From: 1 << 23}, whole) {
		t.Error("of all")
	}
	for _, q := range []api.Query{{}, {Grave: allBits}, {From: allBits}, {Grave: allBits - allGraves, From: allBits}, {Grave: allBits, From: allBits - allFroms}} {
		if brief.May(q, whole) {
			t.Errorf("%+v", q)
		}
	}
	for i := range 24 {
		b := api.Brief{Last: 1, Grave: 1 << (i % 8), From: 1 << i, Many: 1}
		if brief.May(api.Query{Grave: b.Grave, From: allBits - b.From}, b) || brief.May(api.Query{Grave: allBits - b.Grave, From: b.From}, b) || !brief.May(api.Query{Grave: b.Grave, From: b.From}, b) {
			t.Errorf("%d", i)
		}
	}
}

// P6.4: what is told of two is told of each, and what may match of one may match of both.
func TestJoinTellsEach(t *testing.T) {
	l := randomBriefs(120)
	for i, a := range l {
		for _, b := range l[i:] {
			x := brief.Join(a, b)
			for _, y := range []api.Brief{a, b} {
				if x.First > y.First || x.Last < y.Last || y.Grave&^x.Grave != 0 || y.From&^x.From != 0 || x.Many < y.Many || y.Keep && !x.Keep {
					t.Errorf("%+v, %+v: %+v", a, b, x)
				}
				q := api.Query{First: y.First, Last: y.First, Grave: y.Grave, From: y.From}
				if !brief.May(q, y) || !brief.May(q, x) {
					t.Errorf("%+v, %+v", q, x)
				}
			}
			if !brief.Right(x) {
				t.Errorf("%+v", x)
			}
		}
	}
}

// P6.4: if nothing may match of some events, none does; of one alone the two are the same.
func TestMayHoldsMatch(t *testing.T) {
	r := rand.New(rand.NewSource(64))
	events := append(smallEvents(), wrongEvents()...)
	for range 2000 {
		var l []api.Brief
		var some []api.Event
		for range r.Intn(5) {
			e := events[r.Intn(len(events))]
			some, l = append(some, e), append(l, brief.Of(e, r.Intn(2) == 0))
		}
		all := brief.All(l)
		for _, q := range queries() {
			for i, e := range some {
				is := brief.Match(q, e)
				if is && !brief.May(q, all) || is != brief.May(q, l[i]) {
					t.Errorf("%+v, %d, %d, %d", q, e.Grave, e.From, e.At)
				}
			}
		}
	}
}

// P6.4: joining hangs on no order, and not on which two are joined first.
func TestJoinOrder(t *testing.T) {
	r := rand.New(rand.NewSource(65))
	l := append(randomBriefs(60), api.Brief{}, api.Brief{}, brief.Of(event(0, 23, low), true), brief.Of(event(7, 0, high), false))
	want := brief.All(l)
	for range 200 {
		r.Shuffle(len(l), func(i, k int) { l[i], l[k] = l[k], l[i] })
		at := r.Intn(len(l) + 1)
		if x, y := brief.All(l), brief.Join(brief.All(l[:at]), brief.All(l[at:])); x != want || y != want {
			t.Fatalf("%+v, %+v, not %+v", x, y, want)
		}
	}
	for i := range len(l) - 2 {
		a, b, c := l[i], l[i+1], l[i+2]
		if brief.Join(a, b) != brief.Join(b, a) || brief.Join(brief.Join(a, b), c) != brief.Join(a, brief.Join(b, c)) {
			t.Errorf("%+v, %+v, %+v", a, b, c)
		}
	}
}
