package audit_test

import (
	"bytes"
	"crypto/sha256"
	"encoding/binary"
	"fmt"
	"math"
	"slices"
	"sync"
	"testing"
	"time"

	"tabulary/api"
	"tabulary/audit"
	"tabulary/keys"
	"tabulary/sign"
)

// laid is the text of a kind and parts, laid by hand.
func laid(kind byte, parts ...string) string {
	text := binary.BigEndian.AppendUint32([]byte{kind}, uint32(len(parts)))
	for _, part := range parts {
		text = binary.BigEndian.AppendUint64(text, uint64(len(part)))
		text = append(text, part...)
	}
	return string(text)
}

// hashOf is the library's hash of a kind and parts.
func hashOf(kind byte, parts ...string) api.Hash { return sha256.Sum256([]byte(laid(kind, parts...))) }

// numberText are the 8 bytes of a number.
func numberText(n int) string { return string(binary.BigEndian.AppendUint64(nil, uint64(n))) }

// briefText is a brief's text, laid by the library.
func briefText(b api.Brief) string {
	var out bytes.Buffer
	if err := binary.Write(&out, binary.BigEndian, b); err != nil {
		panic(err)
	}
	return out.String()
}

// nodeText is a node's text.
func nodeText(n api.Node) string { return string(n.H[:]) + briefText(n.B) }

// A mail is a message, and what is told of it.
type mail struct {
	s string
	b api.Brief
}

// mailOf is a message of a grave, from somewhere, with a text; at so many seconds of a day in 2024.
func mailOf(grave, from, second int, text string, keep bool) mail {
	at := time.Date(2024, 2, 29, 0, 0, second, 250_000_000, time.UTC)
	s := fmt.Sprintf("<%d>1 %s h a p i - %s", 8*from+grave, at.Format("2006-01-02T15:04:05.000000Z"), text)
	return mail{s: s, b: api.Brief{First: at.UnixNano(), Last: at.UnixNano(), Grave: 1 << grave, From: 1 << from, Many: 1, Keep: keep}}
}

// slot is the event of a message.
func (m mail) slot() api.Slot { return api.Slot{S: m.s, H: hashOf(1, m.s), B: m.b} }

// leaf is its node.
func (m mail) leaf() api.Node { return leafOf(m.slot()) }

// mails are so many messages, each a second later than the one ahead; the first one of five is kept. They begin likewise, however many they are.
func mails(many int) []mail {
	var out []mail
	for i := range many {
		out = append(out, mailOf(i%8, i%24, i, fmt.Sprint("event ", i), i%5 == 0))
	}
	return out
}

// slotsOf are the events of messages.
func slotsOf(l []mail) []api.Slot {
	var out []api.Slot
	for _, m := range l {
		out = append(out, m.slot())
	}
	return out
}

// logOf are the events of so many messages.
func logOf(many int) []api.Slot { return slotsOf(mails(many)) }

// otherLog are events of which those from a place on are other ones than those of logOf, with the same briefs.
func otherLog(many, from int) []api.Slot {
	l := mails(many)
	for i := from; i < many; i++ {
		l[i].s += " another one"
	}
	return slotsOf(l)
}

// dropped are events, some of which were deleted: those that needn't be kept, at places that something is true of.
func dropped(l []api.Slot, gone func(i int) bool) []api.Slot {
	l = slices.Clone(l)
	for i, x := range l {
		if gone(i) && !x.B.Keep {
			l[i] = api.Slot{Gone: true, H: x.H, B: x.B}
		}
	}
	return l
}

// leafOf is the node of an event.
func leafOf(x api.Slot) api.Node {
	return api.Node{H: hashOf(2, string(x.H[:]), briefText(x.B)), B: x.B}
}

// leavesOf are those of events.
func leavesOf(l []api.Slot) []api.Node {
	var nodes []api.Node
	for _, x := range l {
		nodes = append(nodes, leafOf(x))
	}
	return nodes
}

// joinOf is the node above two, each of one event or more.
func joinOf(a, b api.Node) api.Node {
	return api.Node{H: hashOf(3, nodeText(a), nodeText(b)), B: api.Brief{
		First: min(a.B.First, b.B.First), Last: max(a.B.Last, b.B.Last),
		Grave: a.B.Grave | b.B.Grave, From: a.B.From | b.B.From, Many: a.B.Many + b.B.Many, Keep: a.B.Keep || b.B.Keep,
	}}
}

// halfOf is the half of n, found by doubling.
func halfOf(n int) int {
	half := 1
	for 2*half < n {
		half *= 2
	}
	return half
}

// rootOf is the root of leaves.
func rootOf(l []api.Node) api.Node {
	switch len(l) {
	case 0:
		return api.Node{H: hashOf(3)}
	case 1:
		return l[0]
	}
	half := halfOf(len(l))
	return joinOf(rootOf(l[:half]), rootOf(l[half:]))
}

// farOf is the far step, by dividing.
func farOf(i int) int {
	if i%2 == 1 {
		return 1
	}
	return 2 * farOf(i/2)
}

// hopOf is the hop from the i-th link.
func hopOf(leaves []api.Node, links []api.Hash, i int) api.Hop {
	return api.Hop{Leaf: leaves[i-1].H, One: links[i-1], Far: links[i-farOf(i)]}
}

// linkOf is the link of a place and a hop.
func linkOf(i int, h api.Hop) api.Hash {
	return hashOf(4, numberText(i), string(h.Leaf[:]), string(h.One[:]), string(h.Far[:]))
}

// linksOf are all links of leaves.
func linksOf(leaves []api.Node) []api.Hash {
	links := []api.Hash{hashOf(4)}
	for i := 1; i <= len(leaves); i++ {
		links = append(links, linkOf(i, hopOf(leaves, links, i)))
	}
	return links
}

// stateOf is what is told of a log of events.
func stateOf(l []api.Slot) api.State {
	leaves := leavesOf(l)
	return api.State{N: len(l), Root: rootOf(leaves), Head: linksOf(leaves)[len(l)]}
}

// wayOf is the way back from all events to the first m of them.
func wayOf(l []api.Slot, m int) []api.Hop {
	leaves := leavesOf(l)
	links := linksOf(leaves)
	var way []api.Hop
	for p := len(l); p > m; {
		way = append(way, hopOf(leaves, links, p))
		if p-farOf(p) >= m {
			p -= farOf(p)
		} else {
			p--
		}
	}
	return way
}

// growthOf proves that a tree of the first m events is the beginning of that of all: the powers of two whose sum m is, then at each place the greatest one that may stand there.
func growthOf(l []api.Slot, m int) api.Growth {
	leaves := leavesOf(l)
	var g api.Growth
	at := 0
	for size := 4096; size > 0; size /= 2 {
		if m&size > 0 {
			g.Old = append(g.Old, rootOf(leaves[at:at+size]))
			at += size
		}
	}
	for at < len(l) {
		size := 4096
		for at%size > 0 || at+size > len(l) {
			size /= 2
		}
		g.New = append(g.New, rootOf(leaves[at:at+size]))
		at += size
	}
	return g
}

// pathOf is what stands beside a leaf, from the lowest node on.
func pathOf(l []api.Node, i int) []api.Node {
	if len(l) == 1 {
		return nil
	}
	half := halfOf(len(l))
	if i < half {
		return append(pathOf(l[:half], i), rootOf(l[half:]))
	}
	return append(pathOf(l[half:], i-half), rootOf(l[:half]))
}

// isAsked: is a node asked for?
func isAsked(q api.Query, b api.Brief) bool {
	timed := q.First <= b.Last && b.First <= q.Last && q.First <= q.Last && b.First <= b.Last
	return b.Many > 0 && timed && q.Grave&b.Grave > 0 && q.From&b.From > 0
}

// itemsOf are what a query is answered of events.
func itemsOf(l []api.Slot, q api.Query) []api.Item {
	if len(l) == 0 {
		return nil
	}
	top := rootOf(leavesOf(l))
	switch {
	case !isAsked(q, top.B):
		return []api.Item{{Kind: 1, H: top.H, B: top.B}}
	case len(l) > 1:
		half := halfOf(len(l))
		return slices.Concat([]api.Item{{}}, itemsOf(l[:half], q), itemsOf(l[half:], q))
	case l[0].Gone:
		return []api.Item{{Kind: 3, H: l[0].H, B: l[0].B}}
	}
	return []api.Item{{Kind: 2, S: l[0].S, B: l[0].B}}
}

// entriesOf are the events that are asked for, found one by one.
func entriesOf(l []api.Slot, q api.Query) []api.Entry {
	var out []api.Entry
	for i, x := range l {
		if isAsked(q, x.B) {
			out = append(out, api.Entry{At: i, S: x.S, Gone: x.Gone, B: x.B})
		}
	}
	return out
}

// everything is a query by which each event is asked for.
func everything() api.Query {
	return api.Query{First: math.MinInt64, Last: math.MaxInt64, Grave: 255, From: 1<<24 - 1}
}

// ourKeys are keys of which all bits that are signed are never alike by chance.
func ourKeys() api.Keys { return api.Keys{Seed: "seed", Height: 2, Bits: 32} }

// signedBy is a state that one of some keys signed.
func signedBy(k api.Keys, key int, s api.State) api.Signed {
	text := laid(8, numberText(s.N), nodeText(s.Root), string(s.Head[:]))
	_, g, e := sign.Sign(api.Signer{K: k, Next: key}, text)
	if e != api.OK {
		panic(e)
	}
	return api.Signed{S: s, G: g}
}

// told is a state that our keys signed.
func told(s api.State) api.Signed { return signedBy(ourKeys(), 1, s) }

// ourRoot is the root of our keys, reckoned once.
var ourRoot = sync.OnceValue(func() api.Hash { return keys.Root(ourKeys()) })

// fresh is an auditor of keys, without a state.
func fresh(k api.Keys) api.Auditor {
	a := api.Auditor{Keys: ourRoot(), Height: k.Height, Bits: k.Bits}
	if k != ourKeys() {
		a.Keys = keys.Root(k)
	}
	return a
}

// knowing is an auditor of our keys that has a state.
func knowing(s api.State) api.Auditor {
	a := fresh(ourKeys())
	a.Has, a.S = true, s
	return a
}

// with is a state that something was done to.
func with(s api.State, change func(s *api.State)) api.State {
	change(&s)
	return s
}

// anyHash is a hash that nothing has.
func anyHash(n byte) api.Hash { return api.Hash{0: 0xee, 15: n, 31: 0xdd} }

// anyNode is a node that no tree has.
func anyNode(n byte) api.Node {
	return api.Node{H: anyHash(n), B: api.Brief{First: 3, Last: 5, Grave: 2, From: 2, Many: 1}}
}

// anyGrowth and anyWay are of nodes and links that are nowhere.
func anyGrowth() api.Growth {
	return api.Growth{Old: []api.Node{anyNode(1), anyNode(2)}, New: []api.Node{anyNode(3)}}
}

func anyWay() []api.Hop { return []api.Hop{{Leaf: anyHash(1), One: anyHash(2), Far: anyHash(3)}} }

// farNumbers are numbers far out, of either sign.
func farNumbers() []int {
	return []int{-2, -4096, -1 << 32, math.MinInt, math.MinInt + 1, math.MaxInt, math.MaxInt - 1, 1 << 32, 1<<32 + 1, 1<<32 + 2, 1 << 62}
}

// noMessages are texts that are no messages.
func noMessages() []string {
	return []string{"", " ", "a", "<", "<9>", "<9>1", "<9>1 - h - - - ", "<9>1 - h - - - - ", "<9>2 - h - - - -", "<192>1 - h - - - -", "<09>1 - h - - - -", "<9>1 1 h - - - -", "<9>1 - h - - - - \xff", " <9>1 - h - - - -", "<9>1 - h - - - [", "\x00"}
}

// changesOf are a brief changed in each of its numbers by itself.
func changesOf(b api.Brief) []api.Brief {
	var out []api.Brief
	for _, change := range []func(b *api.Brief){
		func(b *api.Brief) { b.First-- }, func(b *api.Brief) { b.First++ }, func(b *api.Brief) { b.First ^= -1 << 63 }, func(b *api.Brief) { b.First = math.MaxInt64 },
		func(b *api.Brief) { b.Last-- }, func(b *api.Brief) { b.Last++ }, func(b *api.Brief) { b.Last ^= -1 << 63 }, func(b *api.Brief) { b.Last = math.MaxInt64 },
		func(b *api.Brief) { b.Grave <<= 1 }, func(b *api.Brief) { b.Grave |= 1 << 31 }, func(b *api.Brief) { b.Grave ^= 255 }, func(b *api.Brief) { b.Grave = 0 },
		func(b *api.Brief) { b.From <<= 1 }, func(b *api.Brief) { b.From |= 1 << 31 }, func(b *api.Brief) { b.From ^= 1<<24 - 1 }, func(b *api.Brief) { b.From = 0 },
		func(b *api.Brief) { b.Many-- }, func(b *api.Brief) { b.Many++ }, func(b *api.Brief) { b.Many ^= 1 << 63 },
	} {
		other := b
		change(&other)
		out = append(out, other)
	}
	return out
}

// changedNodes are a node changed in its hash, and in each number of its brief.
func changedNodes(n api.Node) []api.Node {
	var out []api.Node
	for _, at := range []int{0, 15, 31} {
		other := n
		other.H[at] ^= 0x10
		out = append(out, other)
	}
	for _, b := range changesOf(n.B) {
		out = append(out, api.Node{H: n.H, B: b})
	}
	b := n.B
	b.Keep = !b.Keep
	out = append(out, api.Node{H: n.H, B: b}, api.Node{})
	return slices.DeleteFunc(out, func(other api.Node) bool { return other == n })
}

// less are a row without one of its elements, and without any; of an empty row there are none.
func less[T any](row []T) [][]T {
	var out [][]T
	for i := range row {
		out = append(out, nil, slices.Concat(row[:i], row[i+1:]))
	}
	return out
}

// more are a row with one element more: at its beginning, at its end, and one of its own twice.
func more[T any](row []T, x T) [][]T {
	out := [][]T{slices.Concat([]T{x}, row), slices.Concat(row, []T{x})}
	if len(row) > 0 {
		out = append(out, slices.Concat(row, row[len(row)-1:]), slices.Concat(row[:1], row))
	}
	return out
}

// behind is a row in front of room that isn't its own; what it tells is whether all of that is as it was.
func behind[T comparable](row []T, far T) ([]T, func() bool) {
	whole := slices.Concat(row, []T{far, far})
	was := slices.Clone(whole)
	return whole[:len(row)], func() bool { return slices.Equal(whole, was) }
}

// spoil writes over all that a row has, and behind it.
func spoil[T any](row []T) { clear(row[:cap(row)]) }

// wantTaken fails the test, unless a state is taken: all else of the auditor is as it was.
func wantTaken(t *testing.T, what string, a api.Auditor, x api.Signed, g api.Growth, l []api.Hop) {
	t.Helper()
	want := api.Auditor{Keys: a.Keys, Height: a.Height, Bits: a.Bits, Has: true, S: x.S}
	if got, e := audit.Take(a, x, g, l); e != api.OK || got != want {
		t.Errorf("%s: %d, %+v; not %+v", what, e, got, want)
	}
}

// wantRefused fails the test, unless a state is refused by that error, and the auditor is as it was.
func wantRefused(t *testing.T, what string, want api.Errno, a api.Auditor, x api.Signed, g api.Growth, l []api.Hop) {
	t.Helper()
	if got, e := audit.Take(a, x, g, l); e != want || got != a {
		t.Errorf("%s: %d, not %d; %+v, not %+v", what, e, want, got, a)
	}
}

// wantEntries fails the test, unless an answer tells just these.
func wantEntries(t *testing.T, what string, a api.Auditor, q api.Query, l []api.Item, want []api.Entry) {
	t.Helper()
	if got, e := audit.Range(a, q, l); e != api.OK || !slices.Equal(got, want) {
		t.Errorf("%s: %+v, %d; not %+v", what, got, e, want)
	}
}

// wantNoEntries fails the test, unless an answer is refused by that error.
func wantNoEntries(t *testing.T, what string, want api.Errno, a api.Auditor, q api.Query, l []api.Item) {
	t.Helper()
	if got, e := audit.Range(a, q, l); e != want || len(got) != 0 {
		t.Errorf("%s: %+v, %d; not %d", what, got, e, want)
	}
}

// The helpers themselves, by hand.
func TestHelpers(t *testing.T) {
	if m := mailOf(3, 4, 59, "hi", true); m.s != "<35>1 2024-02-29T00:00:59.250000Z h a p i - hi" || m.b.First != 1709164859250000000 || m.b.Grave != 8 || m.b.From != 16 {
		t.Errorf("%+v", m)
	}
	l := logOf(5)
	leaves, g, way := leavesOf(l), growthOf(l, 3), wayOf(l, 3)
	if len(g.Old) != 2 || len(g.New) != 2 || g.Old[1] != leaves[2] || g.New[0] != leaves[3] || g.New[1] != leaves[4] || g.Old[0] != joinOf(leaves[0], leaves[1]) {
		t.Errorf("%+v", g)
	}
	if len(way) != 2 || linkOf(5, way[0]) != stateOf(l).Head || linkOf(4, way[1]) != way[0].One || way[1].One != stateOf(l[:3]).Head {
		t.Errorf("%+v", way)
	}
	if path := pathOf(leaves, 4); len(path) != 1 || path[0] != rootOf(leaves[:4]) || rootOf(leaves) != joinOf(path[0], leaves[4]) {
		t.Errorf("%+v", path)
	}
	items := itemsOf(l[:3], api.Query{First: l[2].B.First, Last: l[2].B.Last, Grave: 255, From: 255})
	if len(items) != 3 || items[0] != (api.Item{}) || items[1].Kind != 1 || items[1].H != g.Old[0].H || items[2].S != l[2].S {
		t.Errorf("%+v", items)
	}
	if a, b := less([]int{1, 2, 3}), less([]int(nil)); len(a) != 6 || len(b) != 0 || !slices.Equal(a[3], []int{1, 3}) {
		t.Error(a, b)
	}
	if x := dropped(l, func(int) bool { return true }); x[0] != l[0] || !x[1].Gone || x[1].S != "" || stateOf(x) != stateOf(l) {
		t.Errorf("%+v", x)
	}
}
