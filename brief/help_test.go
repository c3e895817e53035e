package brief_test

import (
	"bytes"
	"encoding/binary"
	"math"
	"math/rand"
	"testing"

	"tabulary/api"
	"tabulary/brief"
)

const (
	low  = math.MinInt64
	high = math.MaxInt64

	allGraves = 1<<8 - 1
	allFroms  = 1<<24 - 1
	allBits   = 1<<32 - 1
)

// plain is a right brief.
func plain() api.Brief {
	return api.Brief{First: -3, Last: 5, Grave: 6, From: 9, Many: 2}
}

// with is a plain brief that something was done to.
func with(change func(b *api.Brief)) api.Brief {
	b := plain()
	change(&b)
	return b
}

// event is one of this kind, with all that a brief doesn't tell.
func event(grave, from int, at int64) api.Event {
	return api.Event{Grave: grave, From: from, Timed: true, At: at, Host: "h", App: "a", Proc: "p", Id: "i", Data: []api.Elem{{Id: "x", L: []api.Param{{Name: "n", Value: "v"}}}}, Text: "t"}
}

// edgeTimes are times of each kind, with both ends.
func edgeTimes() []int64 {
	return []int64{low, low + 1, -1 << 32, -256, -7, -1, 0, 1, 9, 255, 256, 1 << 31, 1<<32 + 1, high - 1, high}
}

// farOut are numbers that neither Grave nor From of an event may be.
func farOut() []int {
	return []int{math.MinInt, math.MinInt + 1, -1 << 32, -1<<32 + 1, -64, -2, -1, 24, 25, 31, 32, 33, 63, 64, 65, 1 << 31, 1 << 32, 1<<32 + 1, math.MaxInt - 1, math.MaxInt}
}

// wrongEvents are events one of whose Grave and From may not be, or both.
func wrongEvents() []api.Event {
	out := []api.Event{event(-1, -1, 0), event(8, 24, 0), event(8, 0, 0), event(8, 23, 5), event(9, 1, -5), event(23, 7, 1)}
	for _, n := range farOut() {
		out = append(out, event(n, 0, 0), event(n, 23, 7), event(0, n, 0), event(7, n, -7), event(n, n, 1))
	}
	return out
}

// rightBriefs are right briefs of each kind, with the edges.
func rightBriefs() []api.Brief {
	out := []api.Brief{{}, plain(), {First: low, Last: high, Grave: allGraves, From: allFroms, Many: math.MaxUint64, Keep: true}}
	add := func(change func(b *api.Brief)) { out = append(out, with(change)) }
	for i, first := range edgeTimes() {
		for _, last := range edgeTimes()[i:] {
			add(func(b *api.Brief) { b.First, b.Last = first, last })
		}
	}
	for _, grave := range []uint32{1, 2, 128, 129, 254, allGraves} {
		add(func(b *api.Brief) { b.Grave = grave })
	}
	for _, from := range []uint32{1, 2, 255, 256, 1<<23 | 1, 1 << 23, allFroms - 1, allFroms} {
		add(func(b *api.Brief) { b.From = from })
	}
	for _, many := range []uint64{1, 2, 255, 256, 4096, 1 << 32, 1 << 63, math.MaxUint64 - 1, math.MaxUint64} {
		add(func(b *api.Brief) { b.Many, b.Keep = many, many%2 == 0 })
	}
	add(func(b *api.Brief) { b.Keep = true })
	add(func(b *api.Brief) { *b = api.Brief{Grave: 1, From: 1, Many: 1} })
	return append(out, randomBriefs(500)...)
}

// randomBriefs are right briefs of some events each.
func randomBriefs(many int) []api.Brief {
	r := rand.New(rand.NewSource(6))
	out := make([]api.Brief, many)
	for i := range out {
		first := r.Int63n(2000) - 1000
		out[i] = api.Brief{First: first, Last: first + r.Int63n(100), Grave: 1 + r.Uint32()%allGraves, From: 1 + r.Uint32()%allFroms, Many: 1 + r.Uint64()%1000, Keep: r.Intn(2) == 0}
	}
	return out
}

// wrongBriefs are briefs one number of which is one below or one above what it may be, or far out, or that are of none with a number beside.
func wrongBriefs() []api.Brief {
	out := []api.Brief{{Keep: true}, {First: 1}, {Last: 1}, {First: -1}, {First: -1, Last: -1}, {Grave: 1}, {From: 1}, {Grave: 1, From: 1}, {Many: 1}, {Many: 1, Grave: 1}, {Many: 1, From: 1}, {Many: 1, Keep: true}}
	add := func(change func(b *api.Brief)) { out = append(out, with(change)) }
	add(func(b *api.Brief) { b.Many = 0 })
	add(func(b *api.Brief) { b.Many, b.Keep = 0, true })
	for _, grave := range []uint32{0, allGraves + 1, allGraves + 2, 1 << 31, allBits} {
		add(func(b *api.Brief) { b.Grave = grave })
	}
	for _, from := range []uint32{0, allFroms + 1, allFroms + 2, 1 << 31, allBits} {
		add(func(b *api.Brief) { b.From = from })
	}
	for i, last := range edgeTimes() {
		for _, first := range edgeTimes()[i+1:] {
			add(func(b *api.Brief) { b.First, b.Last = first, last })
		}
	}
	return out
}

// textOf is a brief's text, laid by the library.
func textOf(b api.Brief) string {
	var out bytes.Buffer
	if err := binary.Write(&out, binary.BigEndian, b); err != nil {
		panic(err)
	}
	return out.String()
}

// wantForm fails the test, unless Parse refuses s.
func wantForm(t *testing.T, s string) {
	t.Helper()
	if b, e := brief.Parse(s); b != (api.Brief{}) || e != api.ErrForm {
		t.Errorf("Parse(%x): %+v, %d", s, b, e)
	}
}

// wantJoin fails the test, unless Join answers want, on either side.
func wantJoin(t *testing.T, a, b, want api.Brief) {
	t.Helper()
	if x, y := brief.Join(a, b), brief.Join(b, a); x != want || y != want {
		t.Errorf("Join of %+v, %+v: %+v, and the other way %+v, not %+v", a, b, x, y, want)
	}
}
