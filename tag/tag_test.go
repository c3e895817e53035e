package tag_test

import (
	"crypto/sha256"
	"encoding/binary"
	"encoding/hex"
	"fmt"
	"math"
	"math/rand"
	"slices"
	"strings"
	"testing"

	"tabulary/api"
	"tabulary/tag"
)

// libraryText is the text of a kind and parts, laid by the library.
func libraryText(kind int, parts []string) string {
	out := []byte{byte(kind)}
	out = binary.BigEndian.AppendUint32(out, uint32(len(parts)))
	for _, part := range parts {
		out = binary.BigEndian.AppendUint64(out, uint64(len(part)))
		out = append(out, part...)
	}
	return string(out)
}

// librarySum is the library's hash of a text.
func librarySum(text string) api.Hash { return api.Hash(sha256.Sum256([]byte(text))) }

// head is a text's beginning: a kind, and how many parts it tells.
func head(kind byte, many uint32) string {
	return string(binary.BigEndian.AppendUint32([]byte{kind}, many))
}

// length are the eight bytes of a part's length.
func length(n uint64) string { return string(binary.BigEndian.AppendUint64(nil, n)) }

// rows are rows of parts: none, empty ones, long ones, and such as look like texts of their own.
func rows() [][]string {
	return [][]string{
		nil,
		{""},
		{"", ""},
		{"ab"},
		{"a", "b"},
		{"a", "", "bc"},
		{"", "ab", ""},
		{"\x00"},
		{"\x00\xff\x80", "\xff"},
		{strings.Repeat("x", 255), strings.Repeat("y", 256), strings.Repeat("z", 257)},
		{strings.Repeat("x", api.MaxText), strings.Repeat("y", api.MaxText+1)},
		{libraryText(1, []string{"ab"}), "ab"},
		slices.Repeat([]string{"p"}, 300),
		make([]string, api.MaxText),
	}
}

// kinds are some kinds, with both ends.
func kinds() []int { return []int{0, 1, 7, 127, 128, 254, 255} }

// noKinds are numbers that are no kinds.
func noKinds() []int {
	return []int{-1, -2, -255, -256, 256, 257, 511, 512, 1 << 32, math.MinInt, math.MaxInt}
}

// wantParts fails the test, unless Parts answers just that.
func wantParts(t *testing.T, s string, kind int, parts []string, e api.Errno) {
	t.Helper()
	k, l, got := tag.Parts(s)
	if k != kind || !slices.Equal(l, parts) || got != e {
		t.Errorf("Parts of %d bytes: %d, %d parts, %d; not %d, %d parts, %d", len(s), k, len(l), got, kind, len(parts), e)
	}
}

// P3.1: Text, by what is written in the document, and by hand.
func TestTextExamples(t *testing.T) {
	for _, x := range []struct {
		kind  int
		parts []string
		want  string
	}{
		{1, []string{"ab"}, "01 00000001 0000000000000002 6162"},
		{0, nil, "00 00000000"},
		{255, []string{}, "ff 00000000"},
		{255, []string{""}, "ff 00000001 0000000000000000"},
		{7, []string{"a", "", "bc"}, "07 00000003 0000000000000001 61 0000000000000000 0000000000000002 6263"},
		{128, []string{"\x00\xff"}, "80 00000001 0000000000000002 00ff"},
	} {
		got, e := tag.Text(x.kind, x.parts)
		if h := hex.EncodeToString([]byte(got)); h != strings.ReplaceAll(x.want, " ", "") || e != api.OK {
			t.Errorf("%d, %q: %s, %d", x.kind, x.parts, h, e)
		}
	}
}

// P3.1: Text, and Parts of it, of all kinds and of rows of many kinds.
func TestTextAndBack(t *testing.T) {
	for _, kind := range kinds() {
		for _, parts := range rows() {
			s, e := tag.Text(kind, parts)
			if s != libraryText(kind, parts) || e != api.OK {
				t.Errorf("Text of %d, %d parts: %d bytes, %d", kind, len(parts), len(s), e)
			}
			wantParts(t, s, kind, parts, api.OK)
		}
	}
	for kind := range 256 {
		s, e := tag.Text(kind, []string{"ab"})
		if s != libraryText(kind, []string{"ab"}) || e != api.OK {
			t.Errorf("Text of %d: %q, %d", kind, s, e)
		}
		wantParts(t, s, kind, []string{"ab"}, api.OK)
	}
}

// P3.1, P3.2: kinds that are none, with parts enough and too many; Hash tells the same error, Of and Pair all 0.
func TestNoKind(t *testing.T) {
	for _, kind := range noKinds() {
		for _, parts := range [][]string{nil, {"ab"}, make([]string, api.MaxText), make([]string, api.MaxText+1)} {
			if s, e := tag.Text(kind, parts); s != "" || e != api.ErrArg {
				t.Errorf("Text of %d, %d parts: %q, %d", kind, len(parts), s, e)
			}
			if h, e := tag.Hash(kind, parts); h != (api.Hash{}) || e != api.ErrArg {
				t.Errorf("Hash of %d, %d parts: %x, %d", kind, len(parts), h, e)
			}
			if h := tag.Of(kind, parts...); h != (api.Hash{}) {
				t.Errorf("Of %d, %d parts: %x", kind, len(parts), h)
			}
		}
		if h := tag.Pair(kind, api.Hash{1}, api.Hash{2}); h != (api.Hash{}) {
			t.Errorf("Pair of %d: %x", kind, h)
		}
	}
}

// P3.1, P3.2: just MaxText parts, and more.
func TestTooManyParts(t *testing.T) {
	for _, kind := range kinds() {
		for _, many := range []int{api.MaxText + 1, api.MaxText + 2, 2 * api.MaxText} {
			parts := slices.Repeat([]string{"a"}, many)
			if s, e := tag.Text(kind, parts); s != "" || e != api.ErrBig {
				t.Errorf("Text of %d parts: %d bytes, %d", many, len(s), e)
			}
			if h, e := tag.Hash(kind, parts); h != (api.Hash{}) || e != api.ErrBig {
				t.Errorf("Hash of %d parts: %x, %d", many, h, e)
			}
			if h := tag.Of(kind, parts...); h != (api.Hash{}) {
				t.Errorf("Of %d parts: %x", many, h)
			}
		}
		parts := slices.Repeat([]string{"a"}, api.MaxText)
		s, e := tag.Text(kind, parts)
		if s != libraryText(kind, parts) || e != api.OK {
			t.Errorf("Text of %d parts: %d bytes, %d", len(parts), len(s), e)
		}
		wantParts(t, s, kind, parts, api.OK)
		if h := tag.Of(kind, parts...); h != librarySum(s) {
			t.Errorf("Of %d parts: %x", len(parts), h)
		}
	}
}

// P3.1: Parts of a text that is cut at every place, and of one with bytes behind it.
func TestPartsCutAndLonger(t *testing.T) {
	for _, parts := range [][]string{nil, {""}, {"ab"}, {"a", "", "bc"}, {"", "", ""}, {libraryText(1, []string{"ab"}), strings.Repeat("x", 300)}} {
		for _, kind := range kinds() {
			s := libraryText(kind, parts)
			for at := range len(s) {
				wantParts(t, s[:at], 0, nil, api.ErrMore)
			}
			for _, more := range []string{"\x00", "z", "\xff", length(0), s} {
				wantParts(t, s+more, 0, nil, api.ErrForm)
			}
		}
	}
	many := libraryText(3, make([]string, api.MaxText))
	for _, at := range []int{0, 4, 5, 6, len(many) - 8, len(many) - 1} {
		wantParts(t, many[:at], 0, nil, api.ErrMore)
	}
	wantParts(t, many+"z", 0, nil, api.ErrForm)
}

// P3.1: Parts of a text that tells more than MaxText parts: refused for that, whatever is missing or too much behind.
func TestPartsTellsTooMany(t *testing.T) {
	for _, many := range []uint32{api.MaxText + 1, api.MaxText + 2, 1 << 17, 1 << 24, 1 << 31, math.MaxUint32} {
		for _, behind := range []string{"", "\x00", length(0)[:7], length(0), length(5) + "abc", length(math.MaxUint64), "zzzz"} {
			wantParts(t, head(9, many)+behind, 0, nil, api.ErrForm)
		}
	}
	whole := head(9, api.MaxText+1) + strings.Repeat(length(0), api.MaxText+1)
	wantParts(t, whole, 0, nil, api.ErrForm)
	wantParts(t, whole[:len(whole)-1], 0, nil, api.ErrForm)
	wantParts(t, whole+"z", 0, nil, api.ErrForm)
	// Just MaxText may be: there it is the missing bytes that count.
	wantParts(t, head(9, api.MaxText), 0, nil, api.ErrMore)
	// A number that isn't whole tells nothing yet, great as its first bytes are.
	for at := range 5 {
		wantParts(t, head(9, math.MaxUint32)[:at], 0, nil, api.ErrMore)
	}
}

// P3.1: Parts of lengths that no text has.
func TestPartsOfGreatLengths(t *testing.T) {
	for _, n := range []uint64{3, 4, 1 << 31, 1 << 32, 1<<32 + 2, math.MaxInt64 - 8, math.MaxInt64, 1 << 63, 1<<63 + 2, math.MaxUint64 - 8, math.MaxUint64 - 1, math.MaxUint64} {
		wantParts(t, head(0, 1)+length(n)+"ab", 0, nil, api.ErrMore)
		wantParts(t, head(0, 2)+length(2)+"ab"+length(n)+"cd", 0, nil, api.ErrMore)
		wantParts(t, head(0, 2)+length(n)+"ab"+length(2), 0, nil, api.ErrMore)
	}
	wantParts(t, head(0, 1)+length(2)+"ab", 0, []string{"ab"}, api.OK)
	wantParts(t, head(0, 1)+length(1)+"ab", 0, nil, api.ErrForm)
}

// P3.2: Hash and Of are the hash of the text.
func TestHashAndOf(t *testing.T) {
	for _, kind := range kinds() {
		for _, parts := range rows() {
			want := librarySum(libraryText(kind, parts))
			if h, e := tag.Hash(kind, parts); h != want || e != api.OK {
				t.Errorf("Hash of %d, %d parts: %x, %d", kind, len(parts), h, e)
			}
			if h := tag.Of(kind, parts...); h != want {
				t.Errorf("Of %d, %d parts: %x", kind, len(parts), h)
			}
		}
	}
	if h := tag.Of(4); h != librarySum("\x04\x00\x00\x00\x00") {
		t.Errorf("%x", h)
	}
}

// P3.2: Pair is the hash of two parts, the first one first.
func TestPair(t *testing.T) {
	a, b := librarySum("a"), librarySum("b")
	for _, x := range [][2]api.Hash{{a, b}, {b, a}, {a, a}, {{}, {}}, {a, {}}, {{}, a}} {
		for _, kind := range kinds() {
			one, two := string(x[0][:]), string(x[1][:])
			got := tag.Pair(kind, x[0], x[1])
			if got != librarySum(libraryText(kind, []string{one, two})) || got != tag.Of(kind, one, two) {
				t.Errorf("%d, %x, %x: %x", kind, x[0], x[1], got)
			}
			if got == tag.Of(kind, one+two) {
				t.Errorf("%d, %x, %x: as one part", kind, x[0], x[1])
			}
		}
	}
}

// P3.2: Twins of texts that are none.
func TestNoTwins(t *testing.T) {
	texts := []string{"", "a", "b", "ab", "a\x00", strings.Repeat("a", 64), libraryText(1, []string{"ab"}), libraryText(1, []string{"a", "b"})}
	for _, a := range texts {
		for _, b := range texts {
			if l, is := tag.Twins(a, strings.Clone(b)); len(l) != 0 || is {
				t.Errorf("%q, %q: %q, %v", a, b, l, is)
			}
		}
	}
}

// smallRows are all rows of at most three parts, each of at most two of these bytes.
func smallRows() [][]string {
	var parts []string
	bytes := []string{"\x00", "\x01", "a"}
	parts = append(append(parts, ""), bytes...)
	for _, x := range bytes {
		for _, y := range bytes {
			parts = append(parts, x+y)
		}
	}
	out, last := [][]string{nil}, [][]string{nil}
	for range 3 {
		var next [][]string
		for _, row := range last {
			for _, part := range parts {
				next = append(next, append(slices.Clone(row), part))
			}
		}
		out, last = append(out, next...), next
	}
	return out
}

// P3.3: no two unlike kinds and rows have one text; like ones have.
func TestTextsOfUnlike(t *testing.T) {
	seen := map[string]string{}
	for _, kind := range []int{0, 1, 97, 255} {
		for _, row := range smallRows() {
			name := fmt.Sprintf("%d %q", kind, row)
			s, e := tag.Text(kind, row)
			again, _ := tag.Text(kind, slices.Clone(row))
			if e != api.OK || s != again {
				t.Fatalf("%s: %d", name, e)
			}
			if other, is := seen[s]; is {
				t.Errorf("%s and %s: %q", name, other, s)
			}
			seen[s] = name
			wantParts(t, s, kind, row, api.OK)
		}
	}
}

// P3.3: rows whose bytes are the same one behind the other, cut at every place, have texts and hashes of their own.
func TestTextsOfOneRowOfBytes(t *testing.T) {
	for _, all := range []string{"abcdef", strings.Repeat("\x00", 20), libraryText(1, []string{"ab", ""})} {
		texts, hashes, many := map[string]int{}, map[api.Hash]int{}, 0
		for one := range len(all) + 1 {
			for two := one; two <= len(all); two++ {
				row := []string{all[:one], all[one:two], all[two:]}
				s, _ := tag.Text(2, row)
				texts[s]++
				hashes[tag.Of(2, row...)]++
				many++
			}
		}
		for _, row := range [][]string{{all}, {all, ""}, {"", all}} {
			s, _ := tag.Text(2, row)
			texts[s]++
			hashes[tag.Of(2, row...)]++
			many++
		}
		if len(texts) != many || len(hashes) != many {
			t.Errorf("%q: %d rows, %d texts, %d hashes", all, many, len(texts), len(hashes))
		}
	}
}

// P3.3: what Parts takes is the text of what it answers, whatever was done to the text.
func TestPartsOfSpoiltTexts(t *testing.T) {
	r := rand.New(rand.NewSource(5))
	seeds := []string{libraryText(7, []string{"a", "", "bc"}), libraryText(0, []string{"", ""}), libraryText(255, nil), libraryText(1, []string{libraryText(1, []string{"ab"})})}
	taken := 0
	for range 20000 {
		b := []byte(seeds[r.Intn(len(seeds))])
		for range 1 + r.Intn(3) {
			if at := r.Intn(len(b) + 1); at == len(b) || r.Intn(4) == 0 {
				b = slices.Insert(b, at, byte(r.Intn(3)))
			} else if len(b) > 1 && r.Intn(4) == 0 {
				b = slices.Delete(b, at, at+1)
			} else {
				b[at] = byte(r.Intn(4))
			}
		}
		kind, parts, e := tag.Parts(string(b))
		if e == api.OK {
			taken++
		}
		if e == api.OK && libraryText(kind, parts) != string(b) {
			t.Errorf("%q: %d, %q", b, kind, parts)
		}
		if e != api.OK && (kind != 0 || len(parts) != 0) {
			t.Errorf("%q: %d, %q, %d", b, kind, parts, e)
		}
	}
	if taken < 100 {
		t.Errorf("only %d taken", taken)
	}
}

// R3: what is handed in stays as it is, and what came out is not changed by a later call.
func TestNothingIsWrittenInto(t *testing.T) {
	parts := make([]string, 3, 10)
	copy(parts, []string{"a", "", "bc"})
	want := slices.Clone(parts)
	s, _ := tag.Text(7, parts)
	_, first, _ := tag.Parts(s)
	first[0] = "changed"
	_, second, _ := tag.Parts(s)
	tag.Of(7, parts...)
	if !slices.Equal(parts, want) || !slices.Equal(second, want) || first[0] != "changed" {
		t.Errorf("%q, %q, %q", parts, first, second)
	}
}
