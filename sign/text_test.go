package sign_test

import (
	"encoding/binary"
	"math/rand"
	"slices"
	"strings"
	"testing"

	"tabulary/api"
	"tabulary/keys"
	"tabulary/sign"
)

// wantForm fails the test, unless Parse answers ErrForm and nothing else.
func wantForm(t *testing.T, what, text string) {
	t.Helper()
	if g, e := sign.Parse(text); e != api.ErrForm || !isNone(g) {
		t.Errorf("%s (%d bytes): Key %d, %d and %d hashes, %d", what, len(text), g.Key, len(g.L), len(g.Path), e)
	}
}

// wantSig fails the test, unless Parse answers that signature.
func wantSig(t *testing.T, text string, want api.Sig) {
	t.Helper()
	if g, e := sign.Parse(text); e != api.OK || !sameOf(g, want) {
		t.Errorf("Key %d, %d and %d hashes: Key %d, %d and %d hashes, %d", want.Key, len(want.L), len(want.Path), g.Key, len(g.L), len(g.Path), e)
	}
}

// P9.3: Text and Parse, of signatures with any Key and rows of any length.
func TestText(t *testing.T) {
	for _, g := range anySigs() {
		text := sign.Text(g)
		if text != textOf(g) {
			t.Errorf("Key %d, %d and %d hashes: %q", g.Key, len(g.L), len(g.Path), text)
		}
		wantSig(t, text, g)
	}
}

// P9.3: the bytes by hand.
func TestTextByHand(t *testing.T) {
	one, two := api.Hash{0: 1, 31: 2}, api.Hash{0: 0xff, 31: 0x80}
	zeros := strings.Repeat("\x00", 30)
	head := "\x08\x00\x00\x00\x03\x00\x00\x00\x00\x00\x00\x00\x08"
	for _, x := range []struct {
		g    api.Sig
		want string
	}{
		{api.Sig{}, head + strings.Repeat("\x00", 24)},
		{api.Sig{Key: 258, L: []api.Hash{one}}, head + "\x00\x00\x00\x00\x00\x00\x01\x02" + "\x00\x00\x00\x00\x00\x00\x00\x20\x01" + zeros + "\x02" + "\x00\x00\x00\x00\x00\x00\x00\x00"},
		{api.Sig{Key: -2, Path: []api.Hash{two}}, head + "\xff\xff\xff\xff\xff\xff\xff\xfe" + "\x00\x00\x00\x00\x00\x00\x00\x00" + "\x00\x00\x00\x00\x00\x00\x00\x20\xff" + zeros + "\x80"},
		{api.Sig{Key: 1, L: []api.Hash{two, one}, Path: []api.Hash{one}}, head + "\x00\x00\x00\x00\x00\x00\x00\x01" + "\x00\x00\x00\x00\x00\x00\x00\x40\xff" + zeros + "\x80\x01" + zeros + "\x02" + "\x00\x00\x00\x00\x00\x00\x00\x20\x01" + zeros + "\x02"},
	} {
		if got := sign.Text(x.g); got != x.want {
			t.Errorf("Key %d: %q", x.g.Key, got)
		}
		wantSig(t, x.want, x.g)
	}
}

// P9.3: Parse takes each Key, those whose first byte is 128 and above, too.
func TestParseOfAnyKey(t *testing.T) {
	for first := range 256 {
		for _, last := range []byte{0, 1, 127, 128, 255} {
			key := []byte{byte(first), 0, 0, 0, last, 0, 0, last}
			text := laidOf(8, string(key), "", "")
			wantSig(t, text, api.Sig{Key: int(binary.BigEndian.Uint64(key))})
			if g, _ := sign.Parse(text); first >= 128 != (g.Key < 0) || sign.Text(g) != text {
				t.Errorf("% x: Key %d", key, g.Key)
			}
		}
	}
}

// P9.3: Parse of every beginning of a text, and of one with more behind.
func TestParseOfBeginnings(t *testing.T) {
	k := api.Keys{Seed: "seed", Height: 1, Bits: 2}
	for _, g := range []api.Sig{{}, {Key: -1}, sigOf(k, 1, "text"), sigOf(api.Keys{Bits: 1}, 0, "text")} {
		text := sign.Text(g)
		for i := range len(text) {
			wantForm(t, "a beginning", text[:i])
		}
		for _, more := range []string{"\x00", "x", strings.Repeat("\x00", 8), strings.Repeat("x", 32), text} {
			wantForm(t, "more behind", text+more)
		}
	}
}

// P9.3: Parse of parts that are none of a signature.
func TestParseOfOtherParts(t *testing.T) {
	key, one, two := numberOf(5), strings.Repeat("a", 32), strings.Repeat("b", 64)
	for kind := range 256 {
		if text := laidOf(byte(kind), key, one, two); kind == 8 {
			if _, e := sign.Parse(text); e != api.OK {
				t.Fatal("the test itself: no text of a signature", e)
			}
		} else {
			wantForm(t, "another kind", text)
		}
	}
	for _, parts := range [][]string{{}, {key}, {key, one}, {one, two}, {key, one, two, ""}, {key, one, two, two}, {"", key, one, two}, {key, key, one, two}, {one, key, two}, {one, two, key}} {
		wantForm(t, "other parts", laidOf(8, parts...))
	}
	wantForm(t, "a great many parts", laidOf(8, make([]string, api.MaxText)...))
	wantForm(t, "too many parts", laidOf(8, make([]string, api.MaxText+1)...))
	wantForm(t, "more parts told", strings.Replace(laidOf(8, key, one, two), "\x03", "\x04", 1))
	wantForm(t, "far more parts told", "\x08\xff\xff\xff\xff"+laidOf(8, key, one, two)[5:])
	for _, other := range []string{"", key[:7], key + "\x00", key + key, key[:1], strings.Repeat("\x00", 32)} {
		wantForm(t, "a Key of other bytes", laidOf(8, other, one, two))
	}
}

// P9.3: Parse of hashes that are not whole, in one part or in both.
func TestParseOfHashesCutShort(t *testing.T) {
	key := numberOf(5)
	for one := range 100 {
		for two := range 100 {
			text := laidOf(8, key, strings.Repeat("a", one), strings.Repeat("b", two))
			if one%32 != 0 || two%32 != 0 {
				wantForm(t, "cut short", text)
				continue
			}
			h, o := api.Hash([]byte(strings.Repeat("a", 32))), api.Hash([]byte(strings.Repeat("b", 32)))
			wantSig(t, text, api.Sig{Key: 5, L: slices.Repeat([]api.Hash{h}, one/32), Path: slices.Repeat([]api.Hash{o}, two/32)})
		}
	}
}

// P9.3: what Parse takes is the text of what it answers; texts are any, and such that are near to one.
func TestParseOfAnyTexts(t *testing.T) {
	r := rand.New(rand.NewSource(6))
	taken := 0
	for range 20000 {
		text := []byte(textOf(api.Sig{Key: int(r.Uint64()), L: anyRow(r, r.Intn(3)), Path: anyRow(r, r.Intn(3))}))
		if r.Intn(20) == 0 {
			text = text[:r.Intn(len(text)+1)]
			r.Read(text)
		}
		for range r.Intn(3) {
			if len(text) > 0 {
				text[r.Intn(len(text))] ^= 1 << r.Intn(8)
			}
		}
		g, e := sign.Parse(string(text))
		switch {
		case e == api.OK && textOf(g) == string(text):
			taken++
		case e == api.OK:
			t.Errorf("%q is taken as that of Key %d", text, g.Key)
		case e != api.ErrForm || !isNone(g):
			t.Errorf("%q: Key %d, %d", text, g.Key, e)
		}
	}
	if taken < 4000 {
		t.Fatal("the test itself: few texts are taken:", taken)
	}
}

// P9.3: Same, where nothing differs, or all, or just the Key, a row's length, one hash, their order, or in which row they stand.
func TestSame(t *testing.T) {
	r := rand.New(rand.NewSource(7))
	row := anyRow(r, 5)
	changed := slices.Clone(row)
	changed[2][31] ^= 1
	turned := slices.Clone(row)
	turned[0], turned[1] = turned[1], turned[0]
	none := api.Hash{}
	rows := [][]api.Hash{nil, row, row[:4], row[1:], row[:1], changed, turned, {none}, {none, none}, {row[0], none}, {none, row[0]}}
	var all []api.Sig
	for _, key := range []int{0, 1, -1, 1 << 32, -1 << 63} {
		for _, l := range rows {
			for _, path := range rows {
				all = append(all, api.Sig{Key: key, L: l, Path: path})
			}
		}
	}
	for i, a := range all {
		for j, b := range all {
			// Of the rows no two are the same, so that just a signature and itself are.
			if sign.Same(a, b) != (i == j) {
				t.Errorf("Key %d, %d and %d hashes with Key %d, %d and %d hashes: %v", a.Key, len(a.L), len(a.Path), b.Key, len(b.L), len(b.Path), i != j)
			}
		}
		if !sign.Same(a, copyOf(a)) {
			t.Errorf("Key %d, %d and %d hashes: not that of its copy", a.Key, len(a.L), len(a.Path))
		}
	}
	if !sign.Same(api.Sig{}, api.Sig{L: []api.Hash{}, Path: make([]api.Hash, 0, 9)}) {
		t.Error("rows without a hash are not the same")
	}
}

// P9.3: Same and Text tell the same of two signatures.
func TestSameIsThatOfTexts(t *testing.T) {
	all := anySigs()
	for _, a := range all {
		for _, b := range all {
			if sign.Same(a, b) != (textOf(a) == textOf(b)) {
				t.Errorf("Key %d and Key %d", a.Key, b.Key)
			}
		}
	}
}

// P9.4: what is signed is checked behind its text, too.
func TestSignedTextsAreParsed(t *testing.T) {
	for _, k := range []api.Keys{{Bits: 1}, {Seed: "seed", Height: 2, Bits: 256}, {Seed: "seed", Height: 6, Bits: 2}} {
		for _, key := range places(k) {
			g, e := sign.Parse(sign.Text(sigOf(k, key, "text")))
			if e != api.OK {
				t.Errorf("Height %d, %d: %d", k.Height, key, e)
			}
			wantCheck(t, "parsed", api.OK, keys.Root(k), k.Height, k.Bits, "text", g)
		}
	}
}

// R3: what Parse and Text answer does not change later, and no row is seen in the other.
func TestParseSharesNothing(t *testing.T) {
	r := rand.New(rand.NewSource(8))
	was := api.Sig{Key: 3, L: anyRow(r, 4), Path: anyRow(r, 3)}
	text := textOf(was)
	g, _ := sign.Parse(text)
	_ = append(g.L, api.Hash{1})
	_ = append(g.Path, api.Hash{2})
	if !sameOf(g, was) {
		t.Error("one row is seen in the other")
	}
	told := sign.Text(g)
	for i := range g.L {
		g.L[i] = api.Hash{}
	}
	for i := range g.Path {
		g.Path[i] = api.Hash{}
	}
	if told != text {
		t.Error("a row is seen in its text")
	}
	wantSig(t, text, was)
}
