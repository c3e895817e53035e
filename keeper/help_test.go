package keeper_test

import (
	"bytes"
	"crypto/sha256"
	"encoding/binary"
	"fmt"
	"math"
	"math/rand"
	"slices"
	"strings"
	"testing"

	"tabulary/api"
	"tabulary/disk"
	"tabulary/keeper"
	"tabulary/keys"
	"tabulary/sign"
)

// laid is the text of a kind and parts, laid by hand.
func laid(kind byte, parts ...string) string {
	text := binary.BigEndian.AppendUint32([]byte{kind}, uint32(len(parts)))
	for _, part := range parts {
		text = binary.BigEndian.AppendUint64(text, uint64(len(part)))
		text = append(text, part...)
	}
	return string(text)
}

// hashOf is the library's hash of a kind and parts.
func hashOf(kind byte, parts ...string) api.Hash { return sha256.Sum256([]byte(laid(kind, parts...))) }

// numberText are the 8 bytes of a number.
func numberText(n int) string { return string(binary.BigEndian.AppendUint64(nil, uint64(n))) }

// briefText is a brief's text, laid by the library.
func briefText(b api.Brief) string {
	var out bytes.Buffer
	if err := binary.Write(&out, binary.BigEndian, b); err != nil {
		panic(err)
	}
	return out.String()
}

// nodeText is a node's text.
func nodeText(n api.Node) string { return string(n.H[:]) + briefText(n.B) }

// eventText is the text of an event's record.
func eventText(s string) string { return laid(1, s) }

// deletionText is the text of a deletion's record.
func deletionText(i int, x api.Slot) string {
	return laid(2, numberText(i), string(x.H[:]), briefText(x.B))
}

// stateText is the text of a state's record.
func stateText(key int) string { return laid(3, numberText(key)) }

// messageOf is a message of a grave, from 1, with a text.
func messageOf(grave int, text string) string {
	s := fmt.Sprintf("<%d>1 - h - - - -", 8+grave)
	if text == "" {
		return s
	}
	return s + " " + text
}

// longMessage is a message of just so many bytes.
func longMessage(grave, many int) string {
	return messageOf(grave, strings.Repeat("x", many-1-len(messageOf(grave, ""))))
}

// liveOf is the slot of a message of a grave (of messageOf) that has to be kept, or needn't be.
func liveOf(s string, grave int, keep bool) api.Slot {
	return api.Slot{S: s, H: hashOf(1, s), B: api.Brief{Grave: 1 << grave, From: 2, Many: 1, Keep: keep}}
}

// slotOf is the slot of a message of messageOf by a rule.
func slotOf(grave int, text string, r api.Rule) api.Slot {
	return liveOf(messageOf(grave, text), grave, grave <= r.Grave)
}

// goneOf is the slot of one that was deleted.
func goneOf(x api.Slot) api.Slot { return api.Slot{Gone: true, H: x.H, B: x.B} }

// nodeOf is the node of an event.
func nodeOf(x api.Slot) api.Node {
	return api.Node{H: hashOf(2, string(x.H[:]), briefText(x.B)), B: x.B}
}

// nodesOf are those of events.
func nodesOf(l []api.Slot) []api.Node {
	var nodes []api.Node
	for _, x := range l {
		nodes = append(nodes, nodeOf(x))
	}
	return nodes
}

// joinOf is the node above two, each of one event or more.
func joinOf(a, b api.Node) api.Node {
	return api.Node{H: hashOf(3, nodeText(a), nodeText(b)), B: api.Brief{
		First: min(a.B.First, b.B.First), Last: max(a.B.Last, b.B.Last),
		Grave: a.B.Grave | b.B.Grave, From: a.B.From | b.B.From, Many: a.B.Many + b.B.Many, Keep: a.B.Keep || b.B.Keep,
	}}
}

// rootOf is the root of events, put together from below: two at a time, one that is left over as it is.
func rootOf(l []api.Slot) api.Node {
	if len(l) == 0 {
		return api.Node{H: hashOf(3)}
	}
	row := nodesOf(l)
	for len(row) > 1 {
		var above []api.Node
		for i := 0; i+1 < len(row); i += 2 {
			above = append(above, joinOf(row[i], row[i+1]))
		}
		if len(row)%2 == 1 {
			above = append(above, row[len(row)-1])
		}
		row = above
	}
	return row[0]
}

// linksOf are the links of events' nodes.
func linksOf(l []api.Slot) []api.Hash {
	links := []api.Hash{hashOf(4)}
	for at, n := range nodesOf(l) {
		i, far := at+1, 1
		for i%(2*far) == 0 {
			far *= 2
		}
		one, other := links[i-1], links[i-far]
		links = append(links, hashOf(4, numberText(i), string(n.H[:]), string(one[:]), string(other[:])))
	}
	return links
}

// logOf is the log of events, with the links that it has to have.
func logOf(l []api.Slot) api.Log { return api.Log{L: slices.Clone(l), Links: linksOf(l)} }

// stateOf is what is told of a log of events.
func stateOf(l []api.Slot) api.State {
	return api.State{N: len(l), Root: rootOf(l), Head: linksOf(l)[len(l)]}
}

// headOf is the head of a record of a text.
func headOf(s string, wiped bool) string {
	h, length := hashOf(1, s), string(binary.BigEndian.AppendUint32(nil, uint32(len(s))))
	sum, first := hashOf(8, length, string(h[:])), "\xa1"
	if wiped {
		first = "\xa2"
	}
	return first + length + string(h[:]) + string(sum[:])
}

// cutOf are the sectors that a row of bytes has, the last one filled up with bytes of 0.
func cutOf(size int, row string) []string {
	var out []string
	for from := 0; from < len(row); from += size {
		sector := make([]byte, size)
		copy(sector, row[from:])
		out = append(out, string(sector))
	}
	return out
}

// rowOf are a record's sectors.
func rowOf(size int, s string) []string { return cutOf(size, headOf(s, false)+s) }

// wipedOf are the sectors of a wiped record.
func wipedOf(size int, s string) []string {
	return cutOf(size, headOf(s, true)+strings.Repeat("\x00", len(s)))
}

// A rec is a record of a disk.
type rec struct {
	s     string
	wiped bool
}

// live are records of texts.
func live(texts ...string) []rec {
	var out []rec
	for _, s := range texts {
		out = append(out, rec{s: s})
	}
	return out
}

// wiped is the record of a message that was wiped.
func wiped(message string) rec { return rec{s: eventText(message), wiped: true} }

// sectorsOf are all sectors of records, one behind the other.
func sectorsOf(size int, recs []rec) []string {
	var out []string
	for _, x := range recs {
		if x.wiped {
			out = append(out, wipedOf(size, x.s)...)
			continue
		}
		out = append(out, rowOf(size, x.s)...)
	}
	return out
}

// empty is a disk of bytes of 0.
func empty(many, size int) api.Disk {
	return api.Disk{Size: size, Kept: slices.Repeat([]string{strings.Repeat("\x00", size)}, many)}
}

// onto is a disk whose sectors from one on are these, all else as it was.
func onto(d api.Disk, at int, sectors []string) api.Disk {
	d = copyOfDisk(d)
	if at+len(sectors) > len(d.Kept) {
		panic("too few sectors")
	}
	copy(d.Kept[at:], sectors)
	return d
}

// waiting is a disk with writes of these sectors, from one on, that aren't synced.
func waiting(d api.Disk, at int, sectors []string) api.Disk {
	d = copyOfDisk(d)
	for i, s := range sectors {
		d.W = append(d.W, api.Write{At: at + i, S: s})
	}
	return d
}

// diskWith is a disk with these records, from its first sector on.
func diskWith(many, size int, recs []rec) api.Disk {
	return onto(empty(many, size), 0, sectorsOf(size, recs))
}

// settled is a disk with all writes done.
func settled(d api.Disk) api.Disk { return api.Disk{Size: d.Size, Kept: disk.Image(d)} }

// anyDisk is a disk of any bytes, with so many writes that weren't synced.
func anyDisk(r *rand.Rand, many, size, writes int) api.Disk {
	d := api.Disk{Size: size}
	text := func(n int) string {
		b := make([]byte, n)
		r.Read(b)
		return string(b)
	}
	for range many {
		d.Kept = append(d.Kept, text(size))
	}
	for range writes {
		d.W = append(d.W, api.Write{At: r.Intn(many), S: text(1 + r.Intn(size))})
	}
	return d
}

// copyOfDisk is a disk with lists of its own.
func copyOfDisk(d api.Disk) api.Disk {
	d.Kept, d.W = slices.Clone(d.Kept), slices.Clone(d.W)
	return d
}

// copyOf is a logger with lists of its own.
func copyOf(g api.Logger) api.Logger {
	g.D, g.Recs = copyOfDisk(g.D), slices.Clone(g.Recs)
	g.L = api.Log{L: slices.Clone(g.L.L), Links: slices.Clone(g.L.Links)}
	return g
}

// changed is a logger that something was done to.
func changed(g api.Logger, change func(g *api.Logger)) api.Logger {
	g = copyOf(g)
	change(&g)
	return g
}

// isSameDisk: are two disks the same, list by list?
func isSameDisk(a, b api.Disk) bool {
	return a.Size == b.Size && a.Off == b.Off && slices.Equal(a.Kept, b.Kept) && slices.Equal(a.W, b.W)
}

// isSame: are two loggers the same, in all that they have?
func isSame(a, b api.Logger) bool {
	return isSameDisk(a.D, b.D) && a.At == b.At && slices.Equal(a.Recs, b.Recs) && a.G == b.G && a.R == b.R &&
		slices.Equal(a.L.L, b.L.L) && slices.Equal(a.L.Links, b.L.Links)
}

// toldOf tells a logger in few words.
func toldOf(g api.Logger) string {
	gone := 0
	for _, x := range g.L.L {
		if x.Gone {
			gone++
		}
	}
	return fmt.Sprintf("%d sectors of %d, %d writes, off %v, At %d, Recs %v, next key %d, %d events, %d gone, %d links", len(g.D.Kept), g.D.Size, len(g.D.W), g.D.Off, g.At, g.Recs, g.G.Next, len(g.L.L), gone, len(g.L.Links))
}

// wantSame fails the test, unless a logger is the one wanted.
func wantSame(t *testing.T, what string, got, want api.Logger) {
	t.Helper()
	if isSame(got, want) {
		return
	}
	t.Errorf("%s: %s; not %s", what, toldOf(got), toldOf(want))
	for at := range min(len(got.D.Kept), len(want.D.Kept)) {
		if got.D.Kept[at] != want.D.Kept[at] {
			t.Errorf("%s: sector %d: %q, not %q", what, at, got.D.Kept[at], want.D.Kept[at])
			break
		}
	}
	for i := range min(len(got.L.L), len(want.L.L)) {
		if got.L.L[i] != want.L.L[i] {
			t.Errorf("%s: event %d: %+v, not %+v", what, i, got.L.L[i], want.L.L[i])
			break
		}
	}
}

// wantDone fails the test, unless it is done without error, and answers the logger wanted, which is right.
func wantDone(t *testing.T, what string, got api.Logger, e api.Errno, want api.Logger) {
	t.Helper()
	if e != api.OK {
		t.Errorf("%s: %d", what, e)
	}
	wantSame(t, what, got, want)
	if !keeper.Right(got) {
		t.Errorf("%s: not right", what)
	}
}

// wantRefused fails the test, unless it is refused by that error, and the logger is as it was.
func wantRefused(t *testing.T, what string, got api.Logger, e, want api.Errno, g api.Logger) {
	t.Helper()
	if e != want {
		t.Errorf("%s: %d, not %d", what, e, want)
	}
	wantSame(t, what, got, g)
}

// ourKeys are keys that are quick to sign with.
func ourKeys(height int) api.Keys { return api.Keys{Seed: "seed", Height: height, Bits: 4} }

// ourRule is a rule by which graves 0 to 2 have to be kept.
func ourRule() api.Rule { return api.Rule{Grave: 2, Bytes: 100, Events: 10} }

// began is a logger of New on an empty disk.
func began(t *testing.T, many, size int, k api.Keys, r api.Rule) api.Logger {
	t.Helper()
	g, e := keeper.New(empty(many, size), k, r)
	if e != api.OK {
		t.Fatal(many, size, k, r, e)
	}
	return g
}

// ingested is a logger that took messages.
func ingested(t *testing.T, g api.Logger, messages ...string) api.Logger {
	t.Helper()
	for _, s := range messages {
		var e api.Errno
		if g, _, e = keeper.Ingest(g, s); e != api.OK {
			t.Fatalf("%q: %d", s, e)
		}
	}
	return g
}

// committed is a logger that signed its state.
func committed(t *testing.T, g api.Logger) api.Logger {
	t.Helper()
	g, _, e := keeper.Commit(g)
	if e != api.OK {
		t.Fatal(e)
	}
	return g
}

// deleted is a logger without these events.
func deleted(t *testing.T, g api.Logger, places ...int) api.Logger {
	t.Helper()
	for _, i := range places {
		var e api.Errno
		if g, e = keeper.Delete(g, i); e != api.OK {
			t.Fatal(i, e)
		}
	}
	return g
}

// cut is a logger whose power is gone.
func cut(g api.Logger) api.Logger {
	g.D = disk.Cut(g.D)
	return g
}

// someLogger has four events, the third one of which is deleted, one signed state, and a message that isn't synced.
func someLogger(t *testing.T) api.Logger {
	t.Helper()
	g := ingested(t, began(t, 30, 128, ourKeys(2), ourRule()), messageOf(1, "kept"), messageOf(5, ""), messageOf(7, "secret"))
	return ingested(t, deleted(t, committed(t, g), 2), messageOf(3, "last"))
}

// farNumbers are numbers far out, of either sign.
func farNumbers() []int {
	return []int{-2, -4096, -1 << 32, math.MinInt, math.MinInt + 1, math.MaxInt, math.MaxInt - 1, 1 << 32, 1<<32 + 1, 1 << 62}
}

// rightRules are rules that may be, with the edges.
func rightRules() []api.Rule {
	var out []api.Rule
	for grave := -1; grave <= 7; grave++ {
		out = append(out, api.Rule{Grave: grave, Bytes: 60, Events: 5})
	}
	for _, n := range []int{1, 2, 60, 4095, 4096} {
		out = append(out, api.Rule{Grave: 2, Bytes: n, Events: 5}, api.Rule{Grave: 2, Bytes: 60, Events: n - 1}, api.Rule{Grave: 2, Bytes: 60, Events: n})
	}
	return append(out, api.Rule{Grave: -1, Bytes: 1, Events: 0}, api.Rule{Grave: 7, Bytes: 4096, Events: 4096})
}

// wrongRules are rules that may not be, each by one number, or by all.
func wrongRules() []api.Rule {
	out := []api.Rule{{}, {Grave: 8, Bytes: 4097, Events: 4097}, {Grave: -2, Bytes: 0, Events: -1}}
	for _, n := range append(farNumbers(), -2, 8, 255, 256, 7<<32) {
		out = append(out, api.Rule{Grave: n, Bytes: 60, Events: 5})
	}
	for _, n := range append(farNumbers(), -1, 0, 4097, 4098, 65536) {
		out = append(out, api.Rule{Grave: 2, Bytes: n, Events: 5})
	}
	for _, n := range append(farNumbers(), -1, 4097, 4098, 65536) {
		out = append(out, api.Rule{Grave: 2, Bytes: 60, Events: n})
	}
	return out
}

// wrongKeys are keys that aren't right.
func wrongKeys() []api.Keys {
	return []api.Keys{
		{}, {Seed: "seed"}, {Seed: strings.Repeat("s", 257), Bits: 4}, {Height: -1, Bits: 4}, {Height: 7, Bits: 4}, {Bits: 257}, {Bits: -1},
		{Height: math.MinInt, Bits: 4}, {Height: math.MaxInt, Bits: 4}, {Bits: math.MinInt}, {Bits: math.MaxInt},
	}
}

// wrongDisks are disks that aren't right, each in one way.
func wrongDisks() []api.Disk {
	sector := strings.Repeat("\x00", 96)
	return []api.Disk{
		{}, {Size: 96}, {Size: 95, Kept: []string{sector[:95]}}, {Size: 1025, Kept: []string{strings.Repeat("\x00", 1025)}}, {Size: 96, Kept: slices.Repeat([]string{sector}, 4097)},
		{Size: 96, Kept: []string{sector, sector[1:]}}, {Size: 97, Kept: []string{sector}}, {Size: -96, Kept: []string{sector}}, {Size: math.MaxInt, Kept: []string{sector}},
		{Size: 96, Kept: []string{sector}, W: []api.Write{{At: 1, S: "a"}}}, {Size: 96, Kept: []string{sector}, W: []api.Write{{At: -1, S: "a"}}},
		{Size: 96, Kept: []string{sector}, W: []api.Write{{At: 0}}}, {Size: 96, Kept: []string{sector}, W: []api.Write{{At: 0, S: sector + "a"}}},
	}
}

// noMessages are texts that are no messages.
func noMessages() []string {
	return []string{"", " ", "a", "<", "<9>", "<9>1", "<9>1 - h - - - ", "<9>1 - h - - - - ", "<9>2 - h - - - -", "<192>1 - h - - - -", "<09>1 - h - - - -", "<9>1 1 h - - - -", "<9>1 - h - - - - \xff", " <9>1 - h - - - -", "<9>1 - h - - - [", "\x00"}
}

// A held logger stands in front of room that isn't its own, and is to be as it was at the end.
type held struct {
	g, whole, was api.Logger
}

// hold puts a logger in front of such room.
func hold(g api.Logger) held {
	whole := copyOf(g)
	whole.D.Kept = append(whole.D.Kept, "behind", "far behind")
	whole.D.W = append(whole.D.W, api.Write{At: -7, S: "behind"}, api.Write{At: -8, S: "far behind"})
	whole.Recs = append(whole.Recs, -7, -8)
	whole.L.L = append(whole.L.L, api.Slot{S: "behind"}, api.Slot{S: "far behind"})
	whole.L.Links = append(whole.L.Links, api.Hash{1: 1}, api.Hash{2: 2})
	g.D.Kept, g.D.W, g.Recs = whole.D.Kept[:len(g.D.Kept)], whole.D.W[:len(g.D.W)], whole.Recs[:len(g.Recs)]
	g.L = api.Log{L: whole.L.L[:len(g.L.L)], Links: whole.L.Links[:len(g.L.Links)]}
	return held{g: g, whole: whole, was: copyOf(whole)}
}

// wantUntouched fails the test, unless the logger and the room behind its lists are as they were.
func (h held) wantUntouched(t *testing.T, what string) {
	t.Helper()
	wantSame(t, what+": written into", h.whole, h.was)
}

// spoil writes over all that a logger's lists have, and behind it.
func spoil(g api.Logger) {
	for i := range g.D.Kept[:cap(g.D.Kept)] {
		g.D.Kept[:cap(g.D.Kept)][i] = "spoilt"
	}
	for i := range g.D.W[:cap(g.D.W)] {
		g.D.W[:cap(g.D.W)][i] = api.Write{At: -9, S: "spoilt"}
	}
	for i := range g.Recs[:cap(g.Recs)] {
		g.Recs[:cap(g.Recs)][i] = -9
	}
	for i := range g.L.L[:cap(g.L.L)] {
		g.L.L[:cap(g.L.L)][i] = api.Slot{S: "spoilt"}
	}
	for i := range g.L.Links[:cap(g.L.Links)] {
		g.L.Links[:cap(g.L.Links)][i] = api.Hash{9: 9}
	}
}

// isSignedBy: is it a state that the i-th of these keys signed, by all that who checks it has?
func isSignedBy(k api.Keys, i int, x api.Signed) bool {
	n, root, head := numberText(x.S.N), nodeText(x.S.Root), string(x.S.Head[:])
	return x.G.Key == i && sign.Check(keys.Root(k), k.Height, k.Bits, laid(8, n, root, head), x.G) == api.OK
}

// isNoState: is it the zero value?
func isNoState(x api.Signed) bool {
	return x.S == (api.State{}) && x.G.Key == 0 && len(x.G.L) == 0 && len(x.G.Path) == 0
}

// The helpers themselves, by hand.
func TestHelpers(t *testing.T) {
	if s := longMessage(3, 60); len(s) != 60 || s[:20] != "<11>1 - h - - - - xx" {
		t.Errorf("%q", s)
	}
	if d := diskWith(4, 96, []rec{{s: "one"}, wiped(strings.Repeat("a", 40))}); d.Kept[0][69:73] != "one\x00" || d.Kept[1][:2] != "\xa2\x00" || d.Kept[2] != d.Kept[3] {
		t.Errorf("%q", d.Kept)
	}
	g := someLogger(t)
	other := copyOf(g)
	spoil(other)
	if !keeper.Right(g) || isSame(g, other) || len(g.D.W) == 0 || !g.L.L[2].Gone {
		t.Error("no logger, or a copy that is none")
	}
	if got := stateText(258); got != "\x03\x00\x00\x00\x01\x00\x00\x00\x00\x00\x00\x00\x08\x00\x00\x00\x00\x00\x00\x01\x02" {
		t.Errorf("%x", got)
	}
}
