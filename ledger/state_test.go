package ledger_test

import (
	"encoding/hex"
	"fmt"
	"math"
	"math/rand"
	"slices"
	"strings"
	"testing"

	"tabulary/api"
	"tabulary/ledger"
)

// anyState is any state that may be.
func anyState(r *rand.Rand) api.State {
	b := anyOne(r)
	b.Last = max(b.Last, int64(r.Uint64()))
	b.Grave, b.From, b.Many = uint32(1+r.Intn(255)), uint32(1+r.Intn(1<<24-1)), max(1, r.Uint64())
	return api.State{N: r.Intn(4097), Root: api.Node{H: anyHash(r), B: b}, Head: anyHash(r)}
}

// P17.2: State of none: N 0, the root of none, the first link as the head.
func TestStateOfNone(t *testing.T) {
	want := api.State{Root: api.Node{H: hashOf(3)}, Head: hashOf(4)}
	if got := ledger.State(ledger.New()); got != want {
		t.Errorf("%+v", got)
	}
}

// P17.2: State of one event, of several, of as many as may be, of some that were deleted.
func TestState(t *testing.T) {
	r := rand.New(rand.NewSource(11))
	sizes := []int{100, 255, 256, 257, 2047, 2048, 2049, 4095, 4096}
	for many := range 70 {
		sizes = append(sizes, many)
	}
	for _, many := range sizes {
		for _, l := range [][]api.Slot{eventsOf(many), thinned(eventsOf(many)), anyEvents(r, many)} {
			if got, want := ledger.State(logOf(l)), stateOf(l); got != want {
				t.Errorf("%d events: %+v, not %+v", many, got, want)
			}
		}
	}
}

// P17.2: State of a log without links has a head of 0 alone; of any links, the last one.
func TestStateByLinks(t *testing.T) {
	r := rand.New(rand.NewSource(12))
	for _, many := range []int{0, 1, 2, 6} {
		l := eventsOf(many)
		want := stateOf(l)
		for _, links := range [][]api.Hash{nil, {}, {{}}, {anyHash(r)}, {anyHash(r), anyHash(r), anyHash(r)}, append(linksOf(l), anyHash(r))} {
			want.Head = api.Hash{}
			if len(links) > 0 {
				want.Head = links[len(links)-1]
			}
			if got := ledger.State(api.Log{L: l, Links: links}); got != want {
				t.Errorf("%d events, %d links: %+v, not %+v", many, len(links), got, want)
			}
		}
	}
}

// P17.2: Text by hand, byte by byte.
func TestTextByHand(t *testing.T) {
	s := api.State{N: 0x0102, Root: api.Node{H: api.Hash{0: 0xaa, 31: 0xbb}, B: api.Brief{First: -2, Last: 3, Grave: 4, From: 5, Many: 6, Keep: true}}, Head: api.Hash{0: 0xcc, 31: 0xdd}}
	zeros := strings.Repeat("00", 30)
	want := "08" + "00000003" +
		"0000000000000008" + "0000000000000102" +
		"0000000000000041" + "aa" + zeros + "bb" + "fffffffffffffffe" + "0000000000000003" + "00000004" + "00000005" + "0000000000000006" + "01" +
		"0000000000000020" + "cc" + zeros + "dd"
	if got := hex.EncodeToString([]byte(ledger.Text(s))); got != want {
		t.Errorf("%s, not %s", got, want)
	}
}

// P17.2: Text of any number, root and head, also of those that are no log's.
func TestText(t *testing.T) {
	r := rand.New(rand.NewSource(13))
	numbers := append(farNumbers(), 0, 1, 2, 255, 256, 4095, 4096, 4097, 65535, 65536, 0x0102030405060708, -0x0102030405060708)
	for _, n := range numbers {
		states := []api.State{{}, anyState(r), {Root: anyState(r).Root}, {Head: anyHash(r)}, {Root: api.Node{H: anyHash(r)}}}
		for _, b := range slices.Concat(ones(), notOnes(), wrongBriefs()) {
			states = append(states, api.State{Root: api.Node{H: anyHash(r), B: b}, Head: anyHash(r)})
		}
		for _, s := range states {
			s.N = n
			if got := ledger.Text(s); got != stateText(s) {
				t.Errorf("%+v: %x", s, got)
			}
		}
	}
}

// wantParsed fails the test, unless a state's text is parsed to it.
func wantParsed(t *testing.T, s api.State) {
	t.Helper()
	if got, e := ledger.Parse(stateText(s)); got != s || e != api.OK {
		t.Errorf("%+v: %+v, %d", s, got, e)
	}
}

// wantNoState fails the test, unless a text is refused with ErrForm, and nothing else.
func wantNoState(t *testing.T, what, text string) {
	t.Helper()
	if got, e := ledger.Parse(text); got != (api.State{}) || e != api.ErrForm {
		t.Errorf("%s: %x: %+v, %d", what, text, got, e)
	}
}

// P17.2: Parse of each number that may be, of any state, of the states of logs.
func TestParse(t *testing.T) {
	r := rand.New(rand.NewSource(14))
	for n := range 4097 {
		s := anyState(r)
		s.N = n
		wantParsed(t, s)
	}
	for _, many := range []int{0, 1, 2, 3, 17, 4096} {
		wantParsed(t, stateOf(thinned(eventsOf(many))))
	}
}

// P17.2: Parse takes each brief that is right, also one that tells another Many than N does.
func TestParseOfEachBrief(t *testing.T) {
	r := rand.New(rand.NewSource(15))
	for _, b := range slices.Concat(ones(), notOnes()) {
		for _, n := range []int{0, 1, 2, 3, 4095, 4096} {
			wantParsed(t, api.State{N: n, Root: api.Node{H: anyHash(r), B: b}, Head: anyHash(r)})
			wantParsed(t, api.State{N: n, Root: api.Node{B: b}})
		}
	}
}

// P17.2: Parse refuses a number below 0, or above MaxEvents.
func TestParseOfWrongNumber(t *testing.T) {
	r := rand.New(rand.NewSource(16))
	numbers := append(farNumbers(), 4097, 4098, 8192, 65536, 1<<32+4096, math.MinInt+1, math.MinInt+4096, -4095, -4097)
	for _, n := range numbers {
		for _, s := range []api.State{anyState(r), stateOf(nil), stateOf(eventsOf(2))} {
			s.N = n
			wantNoState(t, fmt.Sprint(n), stateText(s))
		}
	}
}

// P17.2: Parse refuses a root's brief that isn't right, in each of its numbers.
func TestParseOfWrongBrief(t *testing.T) {
	r := rand.New(rand.NewSource(17))
	for _, b := range wrongBriefs() {
		for _, n := range []int{0, 1, 4096} {
			wantNoState(t, fmt.Sprintf("%+v", b), stateText(api.State{N: n, Root: api.Node{H: anyHash(r), B: b}, Head: anyHash(r)}))
		}
	}
}

// P17.2: Parse refuses a root's brief whose last byte is neither 0 nor 1.
func TestParseOfWrongKeep(t *testing.T) {
	for _, s := range []api.State{stateOf(nil), stateOf(eventsOf(1)), stateOf(eventsOf(3))} {
		root := nodeText(s.Root)
		for last := range 256 {
			text := laid(8, numberText(s.N), root[:64]+string([]byte{byte(last)}), string(s.Head[:]))
			keep := last == 1
			if last < 2 && (s.N > 0 || !keep) {
				want := s
				want.Root.B.Keep = keep
				wantParsed(t, want)
				continue
			}
			wantNoState(t, fmt.Sprint(last), text)
		}
	}
}

// P17.2: Parse refuses a text that is cut short, or has more in front or behind.
func TestParseOfWrongLength(t *testing.T) {
	text := stateText(stateOf(eventsOf(3)))
	for n := range len(text) {
		wantNoState(t, fmt.Sprintf("%d bytes", n), text[:n])
		wantNoState(t, fmt.Sprintf("without %d bytes", n+1), text[n+1:])
		wantNoState(t, fmt.Sprintf("without that at %d", n), text[:n]+text[n+1:])
	}
	for _, more := range []string{"\x00", "\x08", "x", "\xff", text, "\x00\x00\x00\x00\x00\x00\x00\x00"} {
		wantNoState(t, "more behind", text+more)
		wantNoState(t, "more in front", more+text)
	}
	wantNoState(t, "nothing", "")
}

// P17.2: Parse refuses another kind.
func TestParseOfWrongKind(t *testing.T) {
	s := stateOf(eventsOf(3))
	text := stateText(s)
	for kind := range 256 {
		if kind != 8 {
			wantNoState(t, fmt.Sprint(kind), string([]byte{byte(kind)})+text[1:])
		}
	}
}

// P17.2: Parse refuses fewer parts and more, and parts in another order.
func TestParseOfWrongParts(t *testing.T) {
	s := stateOf(eventsOf(3))
	n, root, head := numberText(s.N), nodeText(s.Root), string(s.Head[:])
	for i, parts := range [][]string{
		{}, {n}, {root}, {head}, {n, root}, {n, head}, {root, head}, {n + root + head}, {n + root, head}, {n, root + head},
		{n, root, head, ""}, {"", n, root, head}, {n, "", root, head}, {n, root, "", head}, {n, root, head, head}, {n, n, root, head}, {n, root[:32], root[32:], head}, {n, root, head[:16], head[16:]},
		{n, head, root}, {root, n, head}, {root, head, n}, {head, n, root}, {head, root, n}, {"", "", ""},
	} {
		wantNoState(t, fmt.Sprint(i), laid(8, parts...))
	}
	if got, e := ledger.Parse(laid(8, n, root, head)); got != s || e != api.OK {
		t.Errorf("%+v, %d", got, e)
	}
	for many := range 256 {
		text := []byte(laid(8, n, root, head))
		for at := 1; at < 5; at++ {
			other := slices.Clone(text)
			other[at] = byte(many)
			if string(other) != string(text) {
				wantNoState(t, "a wrong number of parts", string(other))
			}
		}
	}
}

// P17.2: Parse refuses a part of another length than it has to have.
func TestParseOfWrongPart(t *testing.T) {
	s := stateOf(eventsOf(3))
	parts := []string{numberText(s.N), nodeText(s.Root), string(s.Head[:])}
	for i, part := range parts {
		for n := range len(part) {
			wantNoState(t, fmt.Sprintf("%d bytes of part %d", n, i), laid(8, replaced(parts, i, part[:n])...))
			wantNoState(t, fmt.Sprintf("all but %d bytes of part %d", n+1, i), laid(8, replaced(parts, i, part[n+1:])...))
		}
		for _, more := range []string{"\x00", "\x01", part} {
			wantNoState(t, fmt.Sprintf("more behind part %d", i), laid(8, replaced(parts, i, part+more)...))
			wantNoState(t, fmt.Sprintf("more ahead of part %d", i), laid(8, replaced(parts, i, more+part)...))
		}
	}
	// A byte that goes from one part to the next one leaves the whole as long as it was.
	n, root, head := parts[0], parts[1], parts[2]
	for _, parts := range [][]string{{n[:7], n[7:] + root, head}, {n + root[:1], root[1:], head}, {n, root[:64], root[64:] + head}, {n, root + head[:1], head[1:]}, {n[1:], root + "\x00", head}, {n[1:], root, head + "\x00"}} {
		wantNoState(t, "one byte too few and one too many", laid(8, parts...))
	}
}

// P17.2: Parse tells no other state of a text of which one bit was changed, or refuses it.
func TestParseOfChangedBits(t *testing.T) {
	for _, s := range []api.State{stateOf(nil), stateOf(eventsOf(3))} {
		text := []byte(stateText(s))
		for i := range text {
			for bit := range 8 {
				other := slices.Clone(text)
				other[i] ^= 1 << bit
				got, e := ledger.Parse(string(other))
				if e == api.ErrForm && got == (api.State{}) {
					continue
				}
				if e != api.OK || got == s || stateText(got) != string(other) {
					t.Errorf("bit %d of byte %d: %+v, %d", bit, i, got, e)
				}
			}
		}
	}
}

// P17.2: Parse of any bytes, and of texts as long as a state's.
func TestParseOfAny(t *testing.T) {
	r := rand.New(rand.NewSource(18))
	for range 20000 {
		s := make([]byte, r.Intn(300))
		r.Read(s)
		if r.Intn(2) == 0 {
			s = []byte(laid(8, anyText(r), anyText(r), anyText(r)))
		}
		wantNoState(t, "any", string(s))
	}
	wantNoState(t, "as many parts as may be told", "\x08\x00\x01\x00\x00"+strings.Repeat("\x00", 8<<16))
	wantNoState(t, "more of them", "\x08\xff\xff\xff\xff"+strings.Repeat("\xff", 1<<16))
}
