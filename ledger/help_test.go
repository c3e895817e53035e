package ledger_test

import (
	"bytes"
	"crypto/sha256"
	"encoding/binary"
	"math"
	"math/rand"
	"slices"
	"strings"
	"testing"

	"tabulary/api"
	"tabulary/ledger"
)

// briefText is a brief's text, laid by the library.
func briefText(b api.Brief) string {
	var out bytes.Buffer
	if err := binary.Write(&out, binary.BigEndian, b); err != nil {
		panic(err)
	}
	return out.String()
}

// nodeText is a node's text.
func nodeText(n api.Node) string { return string(n.H[:]) + briefText(n.B) }

// laid is the text of a kind and parts, laid by hand.
func laid(kind byte, parts ...string) string {
	text := []byte{kind, 0, 0, 0, byte(len(parts))}
	for _, part := range parts {
		text = binary.BigEndian.AppendUint64(text, uint64(len(part)))
		text = append(text, part...)
	}
	return string(text)
}

// hashOf is the library's hash of a kind and parts.
func hashOf(kind byte, parts ...string) api.Hash { return sha256.Sum256([]byte(laid(kind, parts...))) }

// dataOf is the hash of a text.
func dataOf(s string) api.Hash { return hashOf(1, s) }

// nodeOf is the node of an event.
func nodeOf(x api.Slot) api.Node {
	return api.Node{H: hashOf(2, string(x.H[:]), briefText(x.B)), B: x.B}
}

// briefOf is what is told of both.
func briefOf(a, b api.Brief) api.Brief {
	out := api.Brief{First: a.First, Last: a.Last, Grave: a.Grave | b.Grave, From: a.From | b.From, Many: a.Many + b.Many, Keep: a.Keep || b.Keep}
	if b.First < a.First {
		out.First = b.First
	}
	if b.Last > a.Last {
		out.Last = b.Last
	}
	return out
}

// rootOf is the root of events, put together from below: two at a time, one that is left over as it is.
func rootOf(l []api.Slot) api.Node {
	if len(l) == 0 {
		return api.Node{H: hashOf(3)}
	}
	var row []api.Node
	for _, x := range l {
		row = append(row, nodeOf(x))
	}
	for len(row) > 1 {
		var above []api.Node
		for i := 0; i+1 < len(row); i += 2 {
			a, b := row[i], row[i+1]
			above = append(above, api.Node{H: hashOf(3, nodeText(a), nodeText(b)), B: briefOf(a.B, b.B)})
		}
		if len(row)%2 == 1 {
			above = append(above, row[len(row)-1])
		}
		row = above
	}
	return row[0]
}

// numberText are the 8 bytes of a number.
func numberText(n int) string { return string(binary.BigEndian.AppendUint64(nil, uint64(n))) }

// linksOf are the links of events' nodes.
func linksOf(l []api.Slot) []api.Hash {
	links := []api.Hash{hashOf(4)}
	for at, x := range l {
		i, far := at+1, 1
		for i%(2*far) == 0 {
			far *= 2
		}
		leaf, one, other := nodeOf(x).H, links[i-1], links[i-far]
		links = append(links, hashOf(4, numberText(i), string(leaf[:]), string(one[:]), string(other[:])))
	}
	return links
}

// logOf is the log of events, with the links that it has to have.
func logOf(l []api.Slot) api.Log { return api.Log{L: slices.Clone(l), Links: linksOf(l)} }

// stateOf is what is told of a log of events.
func stateOf(l []api.Slot) api.State {
	return api.State{N: len(l), Root: rootOf(l), Head: linksOf(l)[len(l)]}
}

// stateText is a state's text, laid by hand.
func stateText(s api.State) string {
	return laid(8, numberText(s.N), nodeText(s.Root), string(s.Head[:]))
}

// liveOf is the slot of an event.
func liveOf(s string, b api.Brief) api.Slot { return api.Slot{S: s, H: dataOf(s), B: b} }

// goneOf is the slot of one that was deleted.
func goneOf(x api.Slot) api.Slot { return api.Slot{Gone: true, H: x.H, B: x.B} }

// briefOfOne is a brief of one event; every fifth one has to be kept.
func briefOfOne(i int) api.Brief {
	at := int64(i)*10 - 50
	return api.Brief{First: at, Last: at, Grave: 1 << (i % 8), From: 1 << (i % 24), Many: 1, Keep: i%5 == 0}
}

// eventsOf are so many events: some have no text, some have the same as others have, every fifth one has to be kept.
func eventsOf(many int) []api.Slot {
	var l []api.Slot
	for i := range many {
		l = append(l, liveOf(strings.Repeat("e", i%7), briefOfOne(i)))
	}
	return l
}

// thinned are events, each third one of which is deleted, if it needn't be kept.
func thinned(l []api.Slot) []api.Slot {
	l = slices.Clone(l)
	for i, x := range l {
		if i%3 == 1 && !x.B.Keep {
			l[i] = goneOf(x)
		}
	}
	return l
}

// anyHash is any hash.
func anyHash(r *rand.Rand) (h api.Hash) {
	r.Read(h[:])
	return h
}

// anyText is any short text, also an empty one.
func anyText(r *rand.Rand) string {
	s := make([]byte, r.Intn(9))
	r.Read(s)
	return string(s)
}

// anyOne is any brief of one event.
func anyOne(r *rand.Rand) api.Brief {
	at := int64(r.Uint64())
	return api.Brief{First: at, Last: at, Grave: 1 << r.Intn(8), From: 1 << r.Intn(24), Many: 1, Keep: r.Intn(4) == 0}
}

// anyEvents are so many events, some of which are deleted.
func anyEvents(r *rand.Rand, many int) []api.Slot {
	var l []api.Slot
	for range many {
		x := liveOf(anyText(r), anyOne(r))
		if !x.B.Keep && r.Intn(3) == 0 {
			x = goneOf(x)
		}
		l = append(l, x)
	}
	return l
}

// ones are briefs that are right, of Many 1: ordinary ones, and those at the edges.
func ones() []api.Brief {
	most := api.Brief{First: math.MinInt64, Last: math.MaxInt64, Grave: 255, From: 1<<24 - 1, Many: 1, Keep: true}
	return []api.Brief{
		{Grave: 1, From: 1, Many: 1}, {Grave: 1, From: 1, Many: 1, Keep: true}, {First: 5, Last: 5, Grave: 8, From: 16, Many: 1}, {First: -5, Last: 5, Grave: 128, From: 1 << 23, Many: 1}, most,
		{First: math.MinInt64, Last: math.MinInt64, Grave: 255, From: 1, Many: 1}, {First: math.MaxInt64, Last: math.MaxInt64, Grave: 3, From: 1<<24 - 1, Many: 1}, {First: -1, Last: -1, Grave: 1, From: 3, Many: 1},
	}
}

// wrongBriefs are briefs that aren't right, each of them wrong in one number alone.
func wrongBriefs() []api.Brief {
	return []api.Brief{
		{First: 1, Last: 0, Grave: 1, From: 1, Many: 1}, {First: math.MaxInt64, Last: math.MinInt64, Grave: 1, From: 1, Many: 1}, {First: -1, Last: -2, Grave: 1, From: 1, Many: 1},
		{Grave: 0, From: 1, Many: 1}, {Grave: 256, From: 1, Many: 1}, {Grave: 257, From: 1, Many: 1}, {Grave: 1<<31 + 1, From: 1, Many: 1},
		{Grave: 1, From: 0, Many: 1}, {Grave: 1, From: 1 << 24, Many: 1}, {Grave: 1, From: 1<<24 + 1, Many: 1}, {Grave: 1, From: 1<<31 + 1, Many: 1},
		{Grave: 1, From: 1, Many: 0}, {First: 5, Last: 5, Grave: 1, From: 1, Keep: true}, {Keep: true}, {First: 1}, {Last: 1}, {Grave: 1}, {From: 1}, {Many: 1},
	}
}

// notOnes are briefs that are right, but not of one event.
func notOnes() []api.Brief {
	return []api.Brief{
		{}, {Grave: 1, From: 1, Many: 2}, {First: 5, Last: 6, Grave: 3, From: 3, Many: 3, Keep: true},
		{Grave: 1, From: 1, Many: 1<<32 + 1}, {Grave: 1, From: 1, Many: 1<<63 + 1}, {Grave: 1, From: 1, Many: math.MaxUint64},
	}
}

// farNumbers are numbers far out, of either sign.
func farNumbers() []int {
	return []int{-1, -2, -4096, -1 << 32, math.MinInt, math.MinInt + 1, math.MaxInt, math.MaxInt - 1, 1 << 32, 1<<32 + 1, 1 << 62}
}

// changesOfHash are a hash, changed in a bit of its first byte, one in its midst, its last one.
func changesOfHash(h api.Hash) []api.Hash {
	var out []api.Hash
	for _, i := range []int{0, 15, 31} {
		other := h
		other[i] ^= 1 << (i % 8)
		out = append(out, other)
	}
	return out
}

// changesOfBrief are a brief, changed in each of its numbers, one of them at a time.
func changesOfBrief(b api.Brief) []api.Brief {
	var out []api.Brief
	for _, change := range []func(b *api.Brief){
		func(b *api.Brief) { b.First-- }, func(b *api.Brief) { b.First ^= -1 << 63 }, func(b *api.Brief) { b.Last++ }, func(b *api.Brief) { b.Last ^= -1 << 63 },
		func(b *api.Brief) { b.Grave ^= 1 }, func(b *api.Brief) { b.Grave ^= 1 << 31 }, func(b *api.Brief) { b.From ^= 1 }, func(b *api.Brief) { b.From ^= 1 << 31 },
		func(b *api.Brief) { b.Many++ }, func(b *api.Brief) { b.Many ^= 1 << 63 }, func(b *api.Brief) { b.Keep = !b.Keep },
	} {
		other := b
		change(&other)
		out = append(out, other)
	}
	return out
}

// replaced is a row with another one in the i-th place.
func replaced[T any](row []T, i int, x T) []T {
	row = slices.Clone(row)
	row[i] = x
	return row
}

// exchanged is a row with two of its places exchanged.
func exchanged[T any](row []T, i, k int) []T {
	row = slices.Clone(row)
	row[i], row[k] = row[k], row[i]
	return row
}

// A held log stands in front of room that isn't its own, and is to be as it was at the end.
type held struct {
	log   api.Log
	slots []api.Slot // its events, and the room behind
	links []api.Hash // so, too
	// as they were
	wantSlots []api.Slot
	wantLinks []api.Hash
}

// hold puts a log in front of such room.
func hold(l api.Log) held {
	slots := slices.Concat(l.L, []api.Slot{{S: "behind"}, {S: "far behind"}})
	links := slices.Concat(l.Links, []api.Hash{{1: 1}, {2: 2}})
	log := api.Log{L: slots[:len(l.L)], Links: links[:len(l.Links)]}
	return held{log: log, slots: slots, links: links, wantSlots: slices.Clone(slots), wantLinks: slices.Clone(links)}
}

// wantUntouched fails the test, unless the log and the room behind it are as they were.
func (h held) wantUntouched(t *testing.T, what string) {
	t.Helper()
	if !slices.Equal(h.slots, h.wantSlots) || !slices.Equal(h.links, h.wantLinks) {
		t.Errorf("%s: written into", what)
	}
}

// isSame: are two logs the same, in all that they have?
func isSame(a, b api.Log) bool {
	return slices.Equal(a.L, b.L) && slices.Equal(a.Links, b.Links)
}

// wantLog fails the test, unless a log is the one wanted, and right.
func wantLog(t *testing.T, what string, got api.Log, e api.Errno, want api.Log) {
	t.Helper()
	if e != api.OK || !isSame(got, want) {
		t.Errorf("%s: %d: %d events, %d links; not %d, %d", what, e, len(got.L), len(got.Links), len(want.L), len(want.Links))
	}
	if !ledger.Right(got) {
		t.Errorf("%s: not right", what)
	}
}

// wantAsItWas fails the test, unless it is refused by that error, and the log is as it was.
func wantAsItWas(t *testing.T, what string, got api.Log, e, want api.Errno, l api.Log) {
	t.Helper()
	if e != want || !isSame(got, l) {
		t.Errorf("%s: %d, not %d: %d events, %d links; not %d, %d", what, e, want, len(got.L), len(got.Links), len(l.L), len(l.Links))
	}
}

// wantNotRight fails the test, if Right takes a log.
func wantNotRight(t *testing.T, what string, l api.Log) {
	t.Helper()
	if ledger.Right(l) {
		t.Errorf("%s: right", what)
	}
}
