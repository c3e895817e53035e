package span_test

import (
	"bytes"
	"crypto/sha256"
	"encoding/binary"
	"math"
	"math/rand"
	"slices"
	"strings"
	"testing"

	"tabulary/api"
	"tabulary/span"
)

// briefText is a brief's text, laid by the library.
func briefText(b api.Brief) string {
	var out bytes.Buffer
	if err := binary.Write(&out, binary.BigEndian, b); err != nil {
		panic(err)
	}
	return out.String()
}

// textOf is a node's text.
func textOf(n api.Node) string { return string(n.H[:]) + briefText(n.B) }

// hashOf is the library's hash of a kind and parts, laid by hand.
func hashOf(kind byte, parts ...string) api.Hash {
	text := []byte{kind, 0, 0, 0, byte(len(parts))}
	for _, part := range parts {
		text = binary.BigEndian.AppendUint64(text, uint64(len(part)))
		text = append(text, part...)
	}
	return sha256.Sum256(text)
}

// dataOf is the hash of a text.
func dataOf(s string) api.Hash { return hashOf(1, s) }

// leafOf is the leaf of an event whose text has that hash.
func leafOf(h api.Hash, b api.Brief) api.Node {
	return api.Node{H: hashOf(2, string(h[:]), briefText(b)), B: b}
}

// briefOf is what is told of both.
func briefOf(a, b api.Brief) api.Brief {
	if a.Many == 0 {
		return b
	}
	if b.Many == 0 {
		return a
	}
	out := api.Brief{First: a.First, Last: a.Last, Grave: a.Grave | b.Grave, From: a.From | b.From, Many: a.Many + b.Many, Keep: a.Keep || b.Keep}
	if b.First < a.First {
		out.First = b.First
	}
	if b.Last > a.Last {
		out.Last = b.Last
	}
	return out
}

// joinOf is the node above two.
func joinOf(a, b api.Node) api.Node {
	return api.Node{H: hashOf(3, textOf(a), textOf(b)), B: briefOf(a.B, b.B)}
}

// noneOf is the node of none.
func noneOf() api.Node { return api.Node{H: hashOf(3)} }

// halfOf is the half of n, found by doubling.
func halfOf(n int) int {
	half := 1
	for 2*half < n {
		half *= 2
	}
	return half
}

// rootOf is the root of slots.
func rootOf(l []api.Slot) api.Node {
	switch len(l) {
	case 0:
		return noneOf()
	case 1:
		return leafOf(l[0].H, l[0].B)
	}
	half := halfOf(len(l))
	return joinOf(rootOf(l[:half]), rootOf(l[half:]))
}

// mayOf: is a node asked for?
func mayOf(q api.Query, b api.Brief) bool {
	timed := q.First <= b.Last && b.First <= q.Last && q.First <= q.Last && b.First <= b.Last
	return b.Many > 0 && timed && q.Grave&b.Grave > 0 && q.From&b.From > 0
}

// itemsOf are the items of a tree of slots.
func itemsOf(l []api.Slot, q api.Query) []api.Item {
	_, items := askedOf(l, q)
	return items
}

// askedOf are the root of slots, and the items of their tree, put together from those of both sides.
func askedOf(l []api.Slot, q api.Query) (api.Node, []api.Item) {
	if len(l) == 0 {
		return noneOf(), nil
	}
	var top api.Node
	var items []api.Item
	switch {
	case len(l) > 1:
		half := halfOf(len(l))
		one, left := askedOf(l[:half], q)
		other, right := askedOf(l[half:], q)
		top, items = joinOf(one, other), slices.Concat([]api.Item{{}}, left, right)
	case l[0].Gone:
		top, items = leafOf(l[0].H, l[0].B), []api.Item{{Kind: 3, H: l[0].H, B: l[0].B}}
	default:
		top, items = leafOf(l[0].H, l[0].B), []api.Item{{Kind: 2, S: l[0].S, B: l[0].B}}
	}
	if !mayOf(q, top.B) {
		items = []api.Item{{Kind: 1, H: top.H, B: top.B}}
	}
	return top, items
}

// entriesOf are the events that are asked for, found one by one.
func entriesOf(l []api.Slot, q api.Query) []api.Entry {
	var out []api.Entry
	for i, x := range l {
		if !mayOf(q, x.B) {
			continue
		}
		one := api.Entry{At: i, S: x.S, Gone: x.Gone, B: x.B}
		if x.Gone {
			one.S = ""
		}
		out = append(out, one)
	}
	return out
}

// A reader reads items by what the document says of them, one rule behind the other.
type reader struct {
	q       api.Query
	rest    []api.Item
	entries []api.Entry
	wrong   bool
}

// node is the node of so many leaves, from a place on.
func (r *reader) node(at, size int) api.Node {
	if len(r.rest) == 0 {
		r.wrong = true
	}
	if r.wrong {
		return api.Node{}
	}
	x := r.rest[0]
	r.rest = r.rest[1:]
	var n api.Node
	switch x.Kind {
	default:
		r.wrong = true
	case 0:
		if size == 1 || x.S != "" || x.H != (api.Hash{}) || x.B != (api.Brief{}) {
			r.wrong = true
			return n
		}
		left := r.node(at, halfOf(size))
		n = joinOf(left, r.node(at+halfOf(size), size-halfOf(size)))
	case 1:
		n = api.Node{H: x.H, B: x.B}
		r.wrong = r.wrong || x.S != ""
	case 2:
		n = leafOf(dataOf(x.S), x.B)
		r.wrong = r.wrong || size > 1 || x.H != (api.Hash{}) || x.B.Many != 1
		r.entries = append(r.entries, api.Entry{At: at, S: x.S, B: x.B})
	case 3:
		n = leafOf(x.H, x.B)
		r.wrong = r.wrong || size > 1 || x.S != "" || x.B.Many != 1
		r.entries = append(r.entries, api.Entry{At: at, Gone: true, B: x.B})
	}
	r.wrong = r.wrong || mayOf(r.q, n.B) != (x.Kind != 1)
	return n
}

// checkOf is what Check has to answer.
func checkOf(root api.Node, n int, q api.Query, l []api.Item) ([]api.Entry, api.Errno) {
	if n < 0 || n > 4096 {
		return nil, api.ErrArg
	}
	r, top := reader{q: q, rest: l}, noneOf()
	if n > 0 {
		top = r.node(0, n)
	}
	if r.wrong || len(r.rest) > 0 || top != root {
		return nil, api.ErrProof
	}
	return r.entries, api.OK
}

// everything is a query by which each event is asked for.
func everything() api.Query {
	return api.Query{First: math.MinInt64, Last: math.MaxInt64, Grave: 255, From: 1<<24 - 1}
}

// between is a query of the events from a place to another one, of a log that eventsOf tells.
func between(from, to int) api.Query {
	return api.Query{First: int64(from) * 10, Last: int64(to) * 10, Grave: 255, From: 1<<24 - 1}
}

// eventsOf are slots of so many events, each later than the one ahead; some are deleted.
func eventsOf(many int) []api.Slot {
	var l []api.Slot
	for i := range many {
		b := api.Brief{First: int64(i) * 10, Last: int64(i) * 10, Grave: 1 << (i % 8), From: 1 << (i % 24), Many: 1, Keep: i%5 == 0}
		s := strings.Repeat("e", i%7) + string([]byte{byte(i >> 8), byte(i)})
		x := api.Slot{S: s, H: dataOf(s), B: b}
		if i%3 == 1 {
			x.S, x.Gone = "", true
		}
		l = append(l, x)
	}
	return l
}

// queriesOf are queries of a log of so many that eventsOf tells.
func queriesOf(many int) []api.Query {
	last, half := many-1, halfOf(max(many, 2))
	out := []api.Query{
		everything(), {}, between(0, 0), between(last, last), between(half-1, half), between(half, last), between(0, half-1), between(half/2, half/2+2), between(many/3, many/3),
		between(-9, -1), between(many, many+9), between(last, 0), between(-9, many+9),
		{First: 1, Last: 9, Grave: 255, From: 255}, {First: 11, Last: int64(many)*10 - 11, Grave: 8, From: 1<<24 - 1},
	}
	for bit := range 10 {
		out = append(out, api.Query{First: math.MinInt64, Last: math.MaxInt64, Grave: 1 << bit, From: 1<<24 - 1})
		out = append(out, api.Query{First: 20, Last: int64(many) * 9, Grave: 0x55, From: 1 << (2 * bit)})
		out = append(out, api.Query{First: math.MinInt64, Last: math.MaxInt64, Grave: 1 << bit, From: 1 << (3*bit + 1)})
	}
	return append(out, api.Query{First: math.MinInt64, Last: math.MaxInt64, Grave: math.MaxUint32, From: math.MaxUint32}, api.Query{First: math.MaxInt64, Last: math.MinInt64, Grave: 255, From: 255},
		api.Query{First: math.MinInt64, Last: math.MaxInt64, Grave: ^uint32(255), From: 255}, api.Query{First: math.MinInt64, Last: math.MaxInt64, Grave: 255}, api.Query{First: math.MinInt64, Last: math.MaxInt64, From: 255})
}

// greatSizes are how many leaves greater trees have: at powers of two, and beside them.
func greatSizes() []int {
	return []int{127, 128, 129, 1000, 1023, 1024, 1025, 2047, 2048, 2049, 4095, 4096}
}

// anyHash is any hash.
func anyHash(r *rand.Rand) (h api.Hash) {
	r.Read(h[:])
	return h
}

// anyText is any short text, also an empty one.
func anyText(r *rand.Rand) string {
	s := make([]byte, r.Intn(9))
	r.Read(s)
	return string(s)
}

// wrongBriefs are briefs that aren't right, and the one of none.
func wrongBriefs() []api.Brief {
	return []api.Brief{
		{}, {Keep: true}, {First: 1}, {Last: -1}, {Grave: 1}, {From: 1}, {Many: 1}, {First: 7, Last: 6, Grave: 1, From: 1, Many: 1}, {Grave: 1, From: 1}, {Last: 9, Grave: 1, From: 1, Many: 0, Keep: true},
		{First: math.MaxInt64, Last: math.MinInt64, Grave: 256, From: 1 << 24, Many: 3}, {Grave: 2, From: 2, Many: 1 << 63, Keep: true}, {Last: 50, Grave: 1, From: 1, Many: 1 << 63},
		{First: math.MinInt64, Last: math.MaxInt64, Grave: math.MaxUint32, From: math.MaxUint32, Many: math.MaxUint64, Keep: true}, {Grave: 256, From: 1 << 24, Many: 1}, {Grave: 3, From: 3, Many: 2},
	}
}

// anyBrief is a brief of some few times and bits, of one event mostly, now and then one that isn't right.
func anyBrief(r *rand.Rand) api.Brief {
	if wrong := wrongBriefs(); r.Intn(6) == 0 {
		return wrong[r.Intn(len(wrong))]
	}
	first := int64(r.Intn(9))
	b := api.Brief{First: first, Last: first, Grave: 1 << r.Intn(3), From: 1 << r.Intn(3), Many: 1, Keep: r.Intn(3) == 0}
	if r.Intn(8) == 0 {
		b.Many, b.Last = uint64(r.Intn(3)), first+int64(r.Intn(3))
	}
	return b
}

// anyQuery is a query of some few times and bits.
func anyQuery(r *rand.Rand) api.Query {
	first := int64(r.Intn(9))
	return api.Query{First: first, Last: first + int64(r.Intn(6)) - 1, Grave: uint32(r.Intn(8)), From: uint32(r.Intn(8))}
}

// anySlot is any slot: its hash may be none of its text, its brief not right, and it may be Gone though it has a text.
func anySlot(r *rand.Rand) api.Slot {
	s := anyText(r)
	x := api.Slot{S: s, H: dataOf(s), Gone: r.Intn(3) == 0, B: anyBrief(r)}
	if r.Intn(4) == 0 {
		x.H = anyHash(r)
	}
	return x
}

// anySlots are so many slots, any ones.
func anySlots(r *rand.Rand, many int) []api.Slot {
	l := make([]api.Slot, many)
	for i := range l {
		l[i] = anySlot(r)
	}
	return l
}

// oneSlots are so many slots, each as an event's has to be: a text or none, its hash, a right brief of one.
func oneSlots(r *rand.Rand, many int) []api.Slot {
	l := make([]api.Slot, many)
	for i := range l {
		s, at := anyText(r), int64(r.Intn(9))
		l[i] = api.Slot{S: s, H: dataOf(s), B: api.Brief{First: at, Last: at, Grave: 1 << r.Intn(3), From: 1 << r.Intn(3), Many: 1, Keep: r.Intn(3) == 0}}
		if r.Intn(3) == 0 {
			l[i].S, l[i].Gone = "", true
		}
	}
	return l
}

// changesOf are a node changed in its hash and in each number of its brief, one of them at a time.
func changesOf(n api.Node) []api.Node {
	var out []api.Node
	for _, change := range []func(n *api.Node){
		func(n *api.Node) { n.H[0] ^= 0x80 }, func(n *api.Node) { n.H[15] ^= 8 }, func(n *api.Node) { n.H[31] ^= 1 },
		func(n *api.Node) { n.B.First-- }, func(n *api.Node) { n.B.First ^= -1 << 63 }, func(n *api.Node) { n.B.Last++ }, func(n *api.Node) { n.B.Last ^= -1 << 63 },
		func(n *api.Node) { n.B.Grave ^= 1 }, func(n *api.Node) { n.B.Grave ^= 1 << 31 }, func(n *api.Node) { n.B.From ^= 1 }, func(n *api.Node) { n.B.From ^= 1 << 31 },
		func(n *api.Node) { n.B.Many++ }, func(n *api.Node) { n.B.Many ^= 1 << 63 }, func(n *api.Node) { n.B.Keep = !n.B.Keep },
	} {
		other := n
		change(&other)
		out = append(out, other)
	}
	return out
}

// changedItems are an item changed in its kind, its text, its hash, and each number of its brief, one of them at a time.
func changedItems(x api.Item) []api.Item {
	var out []api.Item
	for _, kind := range []int{0, 1, 2, 3, -1, 4, 5, -2, 1 << 32, 1<<32 + 1, math.MinInt, math.MaxInt} {
		if kind != x.Kind {
			out = append(out, api.Item{Kind: kind, S: x.S, H: x.H, B: x.B})
		}
	}
	for _, n := range changesOf(api.Node{H: x.H, B: x.B}) {
		out = append(out, api.Item{Kind: x.Kind, S: x.S, H: n.H, B: n.B})
	}
	for _, s := range []string{x.S + "\x00", x.S + "a", "\x00" + x.S, "another one"} {
		out = append(out, api.Item{Kind: x.Kind, S: s, H: x.H, B: x.B})
	}
	if x.S != "" {
		out = append(out, api.Item{Kind: x.Kind, S: x.S[1:], H: x.H, B: x.B}, api.Item{Kind: x.Kind, H: x.H, B: x.B})
	}
	return out
}

// A spot is where a node is: at which leaf it begins, and how many leaves it has.
type spot struct{ at, size int }

// laid are the items of a tree of slots, in which a node is skipped just if it is said to be.
func laid(l []api.Slot, at int, skip func(s spot, b api.Brief) bool) []api.Item {
	top := rootOf(l)
	switch {
	case skip(spot{at, len(l)}, top.B):
		return []api.Item{{Kind: 1, H: top.H, B: top.B}}
	case len(l) > 1:
		half := halfOf(len(l))
		return slices.Concat([]api.Item{{}}, laid(l[:half], at, skip), laid(l[half:], at+half, skip))
	case l[0].Gone:
		return []api.Item{{Kind: 3, H: l[0].H, B: l[0].B}}
	}
	return []api.Item{{Kind: 2, S: l[0].S, B: l[0].B}}
}

// spotsOf are all nodes of a tree of so many.
func spotsOf(at, size int) []spot {
	out := []spot{{at, size}}
	if size > 1 {
		half := halfOf(size)
		out = slices.Concat(out, spotsOf(at, half), spotsOf(at+half, size-half))
	}
	return out
}

// kindsIn are the kinds of items, a letter each.
func kindsIn(l []api.Item) string {
	var out []byte
	for _, x := range l {
		if x.Kind < 0 || x.Kind > 3 {
			out = append(out, '?')
			continue
		}
		out = append(out, "osLG"[x.Kind])
	}
	return string(out)
}

// wantTaken fails the test, unless Check takes items and tells just these entries.
func wantTaken(t *testing.T, want []api.Entry, root api.Node, n int, q api.Query, l []api.Item) {
	t.Helper()
	if got, e := span.Check(root, n, q, l); e != api.OK || !slices.Equal(got, want) {
		t.Errorf("%s of %d: %+v, %d; not %+v", kindsIn(l), n, got, e, want)
	}
}

// wantRefused fails the test, unless Check answers ErrProof, and nothing else.
func wantRefused(t *testing.T, what string, root api.Node, n int, q api.Query, l []api.Item) {
	t.Helper()
	if got, e := span.Check(root, n, q, l); e != api.ErrProof || len(got) != 0 {
		t.Errorf("%s: %s of %d: %+v, %d", what, kindsIn(l), n, got, e)
	}
}
