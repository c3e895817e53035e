package tree_test

import (
	"bytes"
	"crypto/sha256"
	"encoding/binary"
	"math"
	"math/rand"
	"slices"
	"testing"

	"tabulary/api"
	"tabulary/tree"
)

// briefText is a brief's text, laid by the library.
func briefText(b api.Brief) string {
	var out bytes.Buffer
	if err := binary.Write(&out, binary.BigEndian, b); err != nil {
		panic(err)
	}
	return out.String()
}

// textOf is a node's text.
func textOf(n api.Node) string { return string(n.H[:]) + briefText(n.B) }

// hashOf is the library's hash of a kind and parts, laid by hand.
func hashOf(kind byte, parts ...string) api.Hash {
	text := []byte{kind, 0, 0, 0, byte(len(parts))}
	for _, part := range parts {
		text = binary.BigEndian.AppendUint64(text, uint64(len(part)))
		text = append(text, part...)
	}
	return sha256.Sum256(text)
}

// briefOf is what is told of both.
func briefOf(a, b api.Brief) api.Brief {
	if a.Many == 0 {
		return b
	}
	if b.Many == 0 {
		return a
	}
	out := api.Brief{First: a.First, Last: a.Last, Grave: a.Grave | b.Grave, From: a.From | b.From, Many: a.Many + b.Many, Keep: a.Keep || b.Keep}
	if b.First < a.First {
		out.First = b.First
	}
	if b.Last > a.Last {
		out.Last = b.Last
	}
	return out
}

// joinOf is the node above two.
func joinOf(a, b api.Node) api.Node {
	return api.Node{H: hashOf(3, textOf(a), textOf(b)), B: briefOf(a.B, b.B)}
}

// noneOf is the node of none.
func noneOf() api.Node { return api.Node{H: sha256.Sum256([]byte{3, 0, 0, 0, 0})} }

// rootOf is the root of leaves, whose halves are found by doubling.
func rootOf(l []api.Node) api.Node {
	switch len(l) {
	case 0:
		return noneOf()
	case 1:
		return l[0]
	}
	half := 1
	for 2*half < len(l) {
		half *= 2
	}
	return joinOf(rootOf(l[:half]), rootOf(l[half:]))
}

// sizesOf are the powers of two whose sum n is, bit by bit.
func sizesOf(n int) []int {
	var sizes []int
	for bit := 62; bit >= 0 && n > 0; bit-- {
		if n>>bit&1 == 1 {
			sizes = append(sizes, 1<<bit)
		}
	}
	return sizes
}

// peaksOf are the peaks of at most 4096 leaves, each one the root of what stands below it.
func peaksOf(l []api.Node) []api.Peak {
	var p []api.Peak
	at := 0
	for _, size := range sizesOf(len(l)) {
		p = append(p, api.Peak{Size: size, N: rootOf(l[at : at+size])})
		at += size
	}
	return p
}

// foldOf is the root of peaks, from the left on.
func foldOf(p []api.Peak) api.Node {
	switch len(p) {
	case 0:
		return noneOf()
	case 1:
		return p[0].N
	}
	return joinOf(p[0].N, foldOf(p[1:]))
}

// anyHash is any hash.
func anyHash(r *rand.Rand) (h api.Hash) {
	r.Read(h[:])
	return h
}

// rightBrief is any right brief, of one event or more.
func rightBrief(r *rand.Rand) api.Brief {
	first := int64(r.Uint64()) >> r.Intn(64)
	last := first + r.Int63()>>r.Intn(63)
	if last < first {
		first, last = last, first
	}
	return api.Brief{First: first, Last: last, Grave: 1 + r.Uint32()%255, From: 1 + r.Uint32()%(1<<24-1), Many: 1 + uint64(r.Uint32()), Keep: r.Intn(2) == 0}
}

// wrongBriefs are briefs that aren't right, with all that goes round.
func wrongBriefs() []api.Brief {
	return []api.Brief{
		{Keep: true}, {First: 1}, {Last: -1}, {Grave: 1}, {From: 1}, {Many: 1}, {First: 5, Last: 9, Grave: 1, From: 1, Keep: true},
		{First: 7, Last: 6, Grave: 1, From: 1, Many: 1}, {First: math.MaxInt64, Last: math.MinInt64, Grave: 2, From: 3, Many: 3},
		{Grave: 256, From: 1, Many: 1}, {Grave: 1, From: 1 << 24, Many: 1}, {From: 1, Many: 1}, {Grave: 1, Many: 1},
		{First: math.MinInt64, Last: math.MaxInt64, Grave: math.MaxUint32, From: math.MaxUint32, Many: math.MaxUint64, Keep: true},
		{First: -1, Last: 1, Grave: 1, From: 1, Many: 1 << 63}, {First: -2, Last: 2, Grave: 2, From: 2, Many: 1 << 63, Keep: true},
	}
}

// briefs are briefs of each kind: of none, right ones, and others.
func briefs(r *rand.Rand) []api.Brief {
	out := []api.Brief{{}, {First: 3, Last: 3, Grave: 1, From: 1, Many: 1}, {First: math.MinInt64, Last: math.MaxInt64, Grave: 255, From: 1<<24 - 1, Many: math.MaxUint64, Keep: true}}
	for range 8 {
		out = append(out, rightBrief(r))
	}
	return append(out, wrongBriefs()...)
}

// anyNode is any node, whose brief is right, of none now and then.
func anyNode(r *rand.Rand) api.Node {
	if r.Intn(6) == 0 {
		return api.Node{H: anyHash(r)}
	}
	return api.Node{H: anyHash(r), B: rightBrief(r)}
}

// anyRow are so many nodes, any ones.
func anyRow(r *rand.Rand, many int) []api.Node {
	row := make([]api.Node, many)
	for i := range row {
		row[i] = anyNode(r)
	}
	return row
}

// anyPeaks are peaks of these sizes, any ones.
func anyPeaks(r *rand.Rand, sizes ...int) []api.Peak {
	var p []api.Peak
	for _, size := range sizes {
		p = append(p, api.Peak{Size: size, N: anyNode(r)})
	}
	return p
}

// sizesIn are the sizes of peaks.
func sizesIn(p []api.Peak) []int {
	var sizes []int
	for _, x := range p {
		sizes = append(sizes, x.Size)
	}
	return sizes
}

// wantAdd fails the test, unless Add answers just these peaks.
func wantAdd(t *testing.T, p []api.Peak, n api.Peak, want []api.Peak) {
	t.Helper()
	kept := slices.Clone(p)
	if got, e := tree.Add(p, n); e != api.OK || !slices.Equal(got, want) {
		t.Errorf("Add of %d to %d: %d, %d; not %d, or of other nodes", n.Size, sizesIn(p), sizesIn(got), e, sizesIn(want))
	}
	if !slices.Equal(p, kept) {
		t.Errorf("Add of %d to %d: the peaks are changed", n.Size, sizesIn(kept))
	}
}

// wantRefused fails the test, unless Add answers ErrArg, and the peaks that were handed in, as they were.
func wantRefused(t *testing.T, p []api.Peak, n api.Peak) {
	t.Helper()
	kept := slices.Clone(p)
	if got, e := tree.Add(p, n); e != api.ErrArg || !slices.Equal(got, kept) {
		t.Errorf("Add of %d to %d: %d, %d", n.Size, sizesIn(kept), sizesIn(got), e)
	}
	if !slices.Equal(p, kept) {
		t.Errorf("Add of %d to %d: the peaks are changed", n.Size, sizesIn(kept))
	}
}
