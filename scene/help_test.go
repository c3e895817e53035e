package scene_test

import (
	"bytes"
	"crypto/sha256"
	"encoding/binary"
	"fmt"
	"math"
	"slices"
	"strings"
	"testing"

	"tabulary/api"
	"tabulary/keys"
	"tabulary/scene"
	"tabulary/sign"
)

// laid is the text of a kind and parts, laid by hand.
func laid(kind byte, parts ...string) string {
	text := binary.BigEndian.AppendUint32([]byte{kind}, uint32(len(parts)))
	for _, part := range parts {
		text = binary.BigEndian.AppendUint64(text, uint64(len(part)))
		text = append(text, part...)
	}
	return string(text)
}

// hashOf is the library's hash of a kind and parts.
func hashOf(kind byte, parts ...string) api.Hash { return sha256.Sum256([]byte(laid(kind, parts...))) }

// numberText are the 8 bytes of a number.
func numberText(n int) string { return string(binary.BigEndian.AppendUint64(nil, uint64(n))) }

// briefText is a brief's text, laid by the library.
func briefText(b api.Brief) string {
	var out bytes.Buffer
	if err := binary.Write(&out, binary.BigEndian, b); err != nil {
		panic(err)
	}
	return out.String()
}

// nodeText is a node's text.
func nodeText(n api.Node) string { return string(n.H[:]) + briefText(n.B) }

// eventText is the text of an event's record.
func eventText(s string) string { return laid(1, s) }

// deletionText is the text of a deletion's record.
func deletionText(i int, x api.Slot) string {
	return laid(2, numberText(i), string(x.H[:]), briefText(x.B))
}

// stateText is the text of a state's record.
func stateText(key int) string { return laid(3, numberText(key)) }

// messageOf is a message of a grave, from 1, with a text.
func messageOf(grave int, text string) string {
	s := fmt.Sprintf("<%d>1 - h - - - -", 8+grave)
	if text == "" {
		return s
	}
	return s + " " + text
}

// longMessage is a message of just so many bytes.
func longMessage(grave, many int) string {
	return messageOf(grave, strings.Repeat("x", many-1-len(messageOf(grave, ""))))
}

// goneOf is the slot of one that was deleted.
func goneOf(x api.Slot) api.Slot { return api.Slot{Gone: true, H: x.H, B: x.B} }

// nodeOf is the node of an event.
func nodeOf(x api.Slot) api.Node {
	return api.Node{H: hashOf(2, string(x.H[:]), briefText(x.B)), B: x.B}
}

// nodesOf are those of events.
func nodesOf(l []api.Slot) []api.Node {
	var nodes []api.Node
	for _, x := range l {
		nodes = append(nodes, nodeOf(x))
	}
	return nodes
}

// joinOf is the node above two, each of one event or more.
func joinOf(a, b api.Node) api.Node {
	return api.Node{H: hashOf(3, nodeText(a), nodeText(b)), B: api.Brief{
		First: min(a.B.First, b.B.First), Last: max(a.B.Last, b.B.Last),
		Grave: a.B.Grave | b.B.Grave, From: a.B.From | b.B.From, Many: a.B.Many + b.B.Many, Keep: a.B.Keep || b.B.Keep,
	}}
}

// rootOf is the root of events, put together from below: two at a time, one that is left over as it is.
func rootOf(l []api.Slot) api.Node {
	if len(l) == 0 {
		return api.Node{H: hashOf(3)}
	}
	row := nodesOf(l)
	for len(row) > 1 {
		var above []api.Node
		for i := 0; i+1 < len(row); i += 2 {
			above = append(above, joinOf(row[i], row[i+1]))
		}
		if len(row)%2 == 1 {
			above = append(above, row[len(row)-1])
		}
		row = above
	}
	return row[0]
}

// linksOf are the links of events' nodes.
func linksOf(l []api.Slot) []api.Hash {
	links := []api.Hash{hashOf(4)}
	for at, n := range nodesOf(l) {
		i, far := at+1, 1
		for i%(2*far) == 0 {
			far *= 2
		}
		one, other := links[i-1], links[i-far]
		links = append(links, hashOf(4, numberText(i), string(n.H[:]), string(one[:]), string(other[:])))
	}
	return links
}

// stateOf is what is told of a log of events.
func stateOf(l []api.Slot) api.State {
	return api.State{N: len(l), Root: rootOf(l), Head: linksOf(l)[len(l)]}
}

// headOf is the head of a record of a text.
func headOf(s string, wiped bool) string {
	h, length := hashOf(1, s), string(binary.BigEndian.AppendUint32(nil, uint32(len(s))))
	sum, first := hashOf(8, length, string(h[:])), "\xa1"
	if wiped {
		first = "\xa2"
	}
	return first + length + string(h[:]) + string(sum[:])
}

// rowOf are a record's sectors: its head and its text, or, if it was wiped, bytes of 0 instead of that.
func rowOf(size int, x rec) []string {
	text := x.s
	if x.wiped {
		text = ""
	}
	many := (69 + len(x.s) + size - 1) / size
	row := headOf(x.s, x.wiped) + text
	row += strings.Repeat("\x00", many*size-len(row))
	var out []string
	for from := 0; from < len(row); from += size {
		out = append(out, row[from:from+size])
	}
	return out
}

// copyOf is a logger with lists of its own.
func copyOf(g api.Logger) api.Logger {
	g.D.Kept, g.D.W, g.Recs = slices.Clone(g.D.Kept), slices.Clone(g.D.W), slices.Clone(g.Recs)
	g.L = api.Log{L: slices.Clone(g.L.L), Links: slices.Clone(g.L.Links)}
	return g
}

// changed is a logger that something was done to.
func changed(g api.Logger, change func(g *api.Logger)) api.Logger {
	g = copyOf(g)
	change(&g)
	return g
}

// cut is a logger whose power is gone.
func cut(g api.Logger) api.Logger { return changed(g, func(g *api.Logger) { g.D.Off = true }) }

// isSame: are two loggers the same, in all that they have?
func isSame(a, b api.Logger) bool {
	return a.D.Size == b.D.Size && a.D.Off == b.D.Off && slices.Equal(a.D.Kept, b.D.Kept) && slices.Equal(a.D.W, b.D.W) &&
		a.At == b.At && slices.Equal(a.Recs, b.Recs) && a.G == b.G && a.R == b.R &&
		slices.Equal(a.L.L, b.L.L) && slices.Equal(a.L.Links, b.L.Links)
}

// isNone: is it the zero value?
func isNone(g api.Logger) bool { return isSame(g, api.Logger{}) }

// inWords tells a logger in few words.
func inWords(g api.Logger) string {
	gone := 0
	for _, x := range g.L.L {
		if x.Gone {
			gone++
		}
	}
	return fmt.Sprintf("%d sectors of %d, %d writes, off %v, At %d, Recs %v, next key %d, %d events, %d gone, %d links, %+v", len(g.D.Kept), g.D.Size, len(g.D.W), g.D.Off, g.At, g.Recs, g.G.Next, len(g.L.L), gone, len(g.L.Links), g.R)
}

// wantSame fails the test, unless a logger is the one wanted.
func wantSame(t *testing.T, what string, got, want api.Logger) {
	t.Helper()
	if !isSame(got, want) {
		t.Errorf("%s: %s; not %s", what, inWords(got), inWords(want))
	}
}

// isNoState: is it the zero value?
func isNoState(x api.Signed) bool {
	return x.S == (api.State{}) && x.G.Key == 0 && len(x.G.L) == 0 && len(x.G.Path) == 0
}

// isSignedBy: did the i-th of the keys with that root sign it, by all that who checks it has?
func isSignedBy(root api.Hash, k api.Keys, i int, x api.Signed) bool {
	n, top, head := numberText(x.S.N), nodeText(x.S.Root), string(x.S.Head[:])
	return x.G.Key == i && sign.Check(root, k.Height, k.Bits, laid(8, n, top, head), x.G) == api.OK
}

// isSameTold: is the same told, field by field?
func isSameTold(a, b api.Told) bool {
	return a.E == b.E && a.I == b.I && a.X.S == b.X.S && a.X.G.Key == b.X.G.Key &&
		slices.Equal(a.X.G.L, b.X.G.L) && slices.Equal(a.X.G.Path, b.X.G.Path)
}

// copyOfTold is what is told, with lists of its own.
func copyOfTold(x api.Told) api.Told {
	x.X.G.L, x.X.G.Path = slices.Clone(x.X.G.L), slices.Clone(x.X.G.Path)
	return x
}

// Acts, in short.
func take(s string) api.Act        { return api.Act{Kind: 0, S: s} }
func commit() api.Act              { return api.Act{Kind: 1} }
func keep() api.Act                { return api.Act{Kind: 2} }
func drop(i int) api.Act           { return api.Act{Kind: 3, I: i} }
func crash(keep ...int) api.Act    { return api.Act{Kind: 4, Keep: keep} }
func kind(n int) api.Act           { return api.Act{Kind: n} }
func few(l ...api.Act) []api.Act   { return l }
func all(l ...[]api.Act) []api.Act { return slices.Concat(l...) }

// ourConf is a log with room for all that most tests do, with keys that are quick to sign with.
func ourConf() api.Conf {
	return api.Conf{Many: 40, Size: 128, K: api.Keys{Seed: "seed", Height: 2, Bits: 4}, R: api.Rule{Grave: 2, Bytes: 100, Events: 10}}
}

// with is a configuration that something was done to.
func with(c api.Conf, change func(c *api.Conf)) api.Conf {
	change(&c)
	return c
}

// began is a logger of New.
func began(t *testing.T, c api.Conf) api.Logger {
	t.Helper()
	g, e := scene.New(c)
	if e != api.OK {
		t.Fatal(c, e)
	}
	return g
}

// behind is a logger behind acts.
func behind(g api.Logger, l ...api.Act) api.Logger {
	for _, a := range l {
		g, _ = scene.Do(g, a)
	}
	return g
}

// someActs lead to four events, the third one of which is deleted, one signed state, and a message that isn't synced.
func someActs() []api.Act {
	return few(take(messageOf(1, "kept")), take(messageOf(5, "")), take(messageOf(7, "secret")), commit(), drop(2), take(messageOf(3, "last")))
}

// farNumbers are numbers far out, of either sign.
func farNumbers() []int {
	return []int{-2, -4096, -1 << 32, math.MinInt, math.MinInt + 1, math.MaxInt, math.MaxInt - 1, 1 << 32, 1<<32 + 1, 1 << 62}
}

// wrongRules are rules that may not be, each by one number.
func wrongRules() []api.Rule {
	var out []api.Rule
	for _, n := range append(farNumbers(), 8, 255) {
		out = append(out, api.Rule{Grave: n, Bytes: 60, Events: 5})
	}
	for _, n := range append(farNumbers(), -1, 0, 4097) {
		out = append(out, api.Rule{Grave: 2, Bytes: n, Events: 5})
	}
	for _, n := range append(farNumbers(), -1, 4097) {
		out = append(out, api.Rule{Grave: 2, Bytes: 60, Events: n})
	}
	return out
}

// wrongKeys are keys that aren't right.
func wrongKeys() []api.Keys {
	out := []api.Keys{{}, {Seed: strings.Repeat("s", 257), Bits: 4}, {Bits: -1}, {Bits: 257}, {Height: -1, Bits: 4}, {Height: 7, Bits: 4}}
	for _, n := range farNumbers() {
		out = append(out, api.Keys{Height: n, Bits: 4}, api.Keys{Bits: n})
	}
	return out
}

// noMessages are texts that are no messages.
func noMessages() []string {
	return []string{"", " ", "a", "<", "<9>", "<9>1", "<9>1 - h - - - ", "<9>1 - h - - - - ", "<9>2 - h - - - -", "<192>1 - h - - - -", "<09>1 - h - - - -", "<9>1 1 h - - - -", "<9>1 - h - - - - \xff", " <9>1 - h - - - -", "<9>1 - h - - - [", "\x00"}
}

// A held logger stands in front of room that isn't its own, and is to be as it was at the end.
type held struct {
	g, whole, was api.Logger
}

// hold puts a logger in front of such room.
func hold(g api.Logger) held {
	whole := copyOf(g)
	whole.D.Kept = append(whole.D.Kept, "behind", "far behind")
	whole.D.W = append(whole.D.W, api.Write{At: -7, S: "behind"}, api.Write{At: -8, S: "far behind"})
	whole.Recs = append(whole.Recs, -7, -8)
	whole.L.L = append(whole.L.L, api.Slot{S: "behind"}, api.Slot{S: "far behind"})
	whole.L.Links = append(whole.L.Links, api.Hash{1: 1}, api.Hash{2: 2})
	g.D.Kept, g.D.W, g.Recs = whole.D.Kept[:len(g.D.Kept)], whole.D.W[:len(g.D.W)], whole.Recs[:len(g.Recs)]
	g.L = api.Log{L: whole.L.L[:len(g.L.L)], Links: whole.L.Links[:len(g.L.Links)]}
	return held{g: g, whole: whole, was: copyOf(whole)}
}

// wantUntouched fails the test, unless the logger and the room behind its lists are as they were.
func (h held) wantUntouched(t *testing.T, what string) {
	t.Helper()
	wantSame(t, what+": written into", h.whole, h.was)
}

// spoilAll writes over all that a list has, and behind it.
func spoilAll[T any](l []T, x T) {
	for i := range l[:cap(l)] {
		l[:cap(l)][i] = x
	}
}

// spoil writes over all that a logger's lists have, and behind it.
func spoil(g api.Logger) {
	spoilAll(g.D.Kept, "spoilt")
	spoilAll(g.D.W, api.Write{At: -9, S: "spoilt"})
	spoilAll(g.Recs, -9)
	spoilAll(g.L.L, api.Slot{S: "spoilt"})
	spoilAll(g.L.Links, api.Hash{9: 9})
}

// spoilTold writes over all that the lists of what is told have, and behind it.
func spoilTold(x api.Told) {
	spoilAll(x.X.G.L, api.Hash{9: 9})
	spoilAll(x.X.G.Path, api.Hash{9: 9})
}

// The helpers themselves, by hand.
func TestHelpers(t *testing.T) {
	if s := longMessage(3, 60); len(s) != 60 || s[:20] != "<11>1 - h - - - - xx" {
		t.Errorf("%q", s)
	}
	if l := rowOf(96, rec{s: "one"}); len(l) != 1 || l[0][69:73] != "one\x00" || l[0][0] != 0xa1 {
		t.Errorf("%q", l)
	}
	if l := rowOf(96, rec{s: strings.Repeat("a", 28), wiped: true}); len(l) != 2 || l[0][0] != 0xa2 || strings.Contains(l[0]+l[1], "aa") {
		t.Errorf("%q", l)
	}
	g := behind(began(t, ourConf()), someActs()...)
	other := copyOf(g)
	spoil(other)
	if isSame(g, other) || isNone(g) || !isNone(api.Logger{}) || len(g.D.W) == 0 || !g.L.L[2].Gone {
		t.Error("no logger, or a copy that is none")
	}
	if k := ourConf().K; isSignedBy(keys.Root(k), k, 0, api.Signed{}) || !isNoState(api.Signed{}) {
		t.Error("a state that nobody signed")
	}
}
