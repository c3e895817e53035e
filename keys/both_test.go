package keys

import (
	"bytes"
	"math"
	"math/rand"
	"slices"
	"testing"

	"tabulary/api"
	"tabulary/tag"
)

// few is a hash of two bits, so that two climbs often meet.
func few(kind int, a, b api.Hash) api.Hash {
	return api.Hash{7: tag.Pair(kind, a, b)[9] & 3}
}

// blind is the same hash of all.
func blind(int, api.Hash, api.Hash) api.Hash { return api.Hash{1: 1} }

// unordered is a hash that does not hang on which one is first.
func unordered(kind int, a, b api.Hash) api.Hash {
	if bytes.Compare(a[:], b[:]) > 0 {
		a, b = b, a
	}
	return tag.Pair(kind, a, b)
}

// first is a hash that does not hang on the second one, second one that does not on the first.
func first(_ int, a, _ api.Hash) api.Hash  { return a }
func second(_ int, _, b api.Hash) api.Hash { return b }

// told is the text of two hashes, laid by hand.
func told(a, b api.Hash) string {
	length := "\x00\x00\x00\x00\x00\x00\x00\x20"
	return "\x07\x00\x00\x00\x02" + length + string(a[:]) + length + string(b[:])
}

// trace are the hashes of a climb, the leaf first, and the texts of its steps.
func trace(leaf api.Hash, key int, path []api.Hash, pair pairing) (hashes []api.Hash, texts []string) {
	hashes = append(hashes, leaf)
	for i, beside := range path {
		two := []api.Hash{leaf, beside}
		if key>>i&1 == 1 {
			slices.Reverse(two)
		}
		leaf = pair(7, two[0], two[1])
		hashes, texts = append(hashes, leaf), append(texts, told(two[0], two[1]))
	}
	return hashes, texts
}

// bothOf is what both has to answer: of all steps the first one behind which the traces are the same.
func bothOf(leaf api.Hash, key int, path []api.Hash, other api.Hash, way []api.Hash, pair pairing) []string {
	if leaf == other || len(path) != len(way) || key < 0 {
		return nil
	}
	a, texts := trace(leaf, key, path, pair)
	b, others := trace(other, key, way, pair)
	if a[len(path)] != b[len(way)] {
		return nil
	}
	for i := range path {
		if a[i+1] == b[i+1] {
			return []string{texts[i], others[i]}
		}
	}
	return nil
}

// want fails the test, unless both answers just that.
func want(t *testing.T, l []string, leaf api.Hash, key int, path []api.Hash, other api.Hash, way []api.Hash, pair pairing) {
	t.Helper()
	if got, is := both(leaf, key, path, other, way, pair); !slices.Equal(got, l) || is != (l != nil) {
		t.Errorf("%x, %d, %x, %x, %x: %q, %v; not %q", leaf, key, path, other, way, got, is, l)
	}
}

// P8.3: both, by hand, of hashes under which climbs meet.
func TestBothByHand(t *testing.T) {
	a, b, c, d := api.Hash{0: 1}, api.Hash{0: 2}, api.Hash{0: 3}, api.Hash{31: 4}
	row := func(l ...api.Hash) []api.Hash { return l }
	for _, key := range []int{0, 2, 4, 1 << 32, math.MaxInt - 1} {
		want(t, []string{told(a, c), told(b, c)}, a, key, row(c), b, row(c), blind)
		want(t, []string{told(b, c), told(a, c)}, b, key, row(c), a, row(c), blind)
		want(t, []string{told(a, c), told(b, d)}, a, key, row(c), b, row(d), blind)
		want(t, []string{told(a, b), told(b, a)}, a, key, row(b), b, row(a), unordered)
		want(t, []string{told(a, b), told(b, a)}, a, key, row(b, c), b, row(a, c), unordered)
		want(t, nil, a, key, row(b), b, row(c), unordered)
		want(t, nil, a, key, row(b, c), b, row(a, d), unordered)
		want(t, nil, a, key, row(c), b, row(c), first)
		want(t, []string{told(a, c), told(b, c)}, a, key, row(c), b, row(c), second)
	}
	for _, key := range []int{1, 3, 5, 1<<32 + 1, math.MaxInt} {
		want(t, []string{told(c, a), told(c, b)}, a, key, row(c), b, row(c), blind)
		want(t, []string{told(c, a), told(d, b)}, a, key, row(c), b, row(d), blind)
		want(t, []string{told(b, a), told(a, b)}, a, key, row(b), b, row(a), unordered)
		want(t, []string{told(c, a), told(c, b)}, a, key, row(c), b, row(c), first)
		want(t, nil, a, key, row(c), b, row(c), second)
	}
}

// P8.3: the lowest step behind which both are the same is told, wherever the paths part besides.
func TestLowestStep(t *testing.T) {
	r := rand.New(rand.NewSource(8))
	row := anyRow(r, 22)
	a, b := row[20], row[21]
	for at := range 10 {
		// Under first a climb takes on what is beside it at the steps whose number is odd, and nothing else.
		path, way := slices.Clone(row[:10]), slices.Clone(row[10:20])
		way[at] = path[at]
		step := []string{told(path[at], a), told(path[at], b)}
		want(t, step, a, 1<<at, path, b, way, first)
		want(t, step, a, 1<<at, path, b, path, first)
		want(t, nil, a, 1<<at, path, b, row[10:20], first)
		want(t, nil, a, 0, path, b, path, first)
		for behind := at + 1; behind < 10; behind++ {
			// They are the same behind one step and part at another.
			want(t, nil, a, 1<<at|1<<behind, path, b, way, first)
			again := slices.Clone(way)
			again[behind] = path[behind]
			want(t, step, a, 1<<at|1<<behind, path, b, again, first)
			for last := behind + 1; last < 10; last++ {
				parted := slices.Clone(way)
				parted[last] = path[last]
				want(t, step, a, 1<<at|1<<behind|1<<last, path, b, parted, first)
			}
		}
	}
}

// P8.3: none and false, under a hash that is the same of all.
func TestBothRefused(t *testing.T) {
	row := anyRow(rand.New(rand.NewSource(9)), 8)
	a, b, path, way := row[0], row[1], row[2:5], row[5:8]
	want(t, []string{told(a, row[2]), told(b, row[5])}, a, 0, path, b, way, blind)
	for _, key := range []int{math.MinInt, -1 << 32, -4, -3, -2, -1} {
		want(t, nil, a, key, path, b, way, blind)
		want(t, nil, a, key, path, b, path, blind)
		want(t, nil, a, key, path, a, way, blind)
		want(t, nil, a, key, path, b, way[:2], blind)
		want(t, nil, a, key, path, a, way[:2], blind)
	}
	for _, key := range []int{0, 1, 5, math.MaxInt} {
		want(t, nil, a, key, path, a, path, blind)
		want(t, nil, a, key, path, a, way, blind)
		want(t, nil, a, key, nil, a, nil, blind)
		want(t, nil, a, key, nil, b, nil, blind)
		want(t, nil, a, key, path, b, way[:2], blind)
		want(t, nil, a, key, path[:1], b, way, blind)
		want(t, nil, a, key, path, b, nil, blind)
		want(t, nil, a, key, nil, b, way, blind)
		want(t, nil, a, key, path, a, way[:2], blind)
		// As many they are not, though one climb ends where the other one begins.
		want(t, nil, blind(7, a, a), key, nil, b, way, blind)
		want(t, nil, a, key, path, blind(7, a, a), nil, blind)
	}
}

// P8.3, P8.4: both, of any climbs under a hash of two bits: two that lead to one with one number are the same, or two unlike texts are told that have one hash.
func TestBothOfFew(t *testing.T) {
	r := rand.New(rand.NewSource(10))
	small := func(many int) []api.Hash {
		l := make([]api.Hash, many)
		for i := range l {
			l[i][31] = byte(r.Intn(3))
		}
		return l
	}
	met := 0
	for range 20000 {
		many := r.Intn(9)
		if r.Intn(20) == 0 {
			many += 60
		}
		leaves, path, way := small(2), small(many), small(many)
		if r.Intn(3) == 0 {
			way = slices.Clone(path)
		}
		key := r.Intn(600) - 40
		l := bothOf(leaves[0], key, path, leaves[1], way, few)
		want(t, l, leaves[0], key, path, leaves[1], way, few)
		if l != nil {
			met++
			wantTwins(t, l)
		}
		if key >= 0 && (l == nil) != (leaves[0] == leaves[1] || climb(leaves[0], key, path, few) != climb(leaves[1], key, way, few)) {
			t.Errorf("%x, %d, %x, %x, %x: %q", leaves[0], key, path, leaves[1], way, l)
		}
	}
	if met < 1000 {
		t.Errorf("met %d times alone", met)
	}
}

// wantTwins fails the test, unless these are two unlike texts of two hashes each that have one hash under few.
func wantTwins(t *testing.T, l []string) {
	t.Helper()
	var sums []api.Hash
	for _, text := range l {
		kind, parts, e := tag.Parts(text)
		if kind != api.KKeys || len(parts) != 2 || len(parts[0]) != 32 || len(parts[1]) != 32 || e != api.OK {
			t.Fatalf("%q: %d, %q, %d", text, kind, parts, e)
		}
		sums = append(sums, few(kind, api.Hash([]byte(parts[0])), api.Hash([]byte(parts[1]))))
	}
	if len(l) != 2 || l[0] == l[1] || sums[0] != sums[1] {
		t.Errorf("%q: %x", l, sums)
	}
}

// P8.2, P8.3: the hash that is told is chapter 3's, and nothing handed in is changed where both tells two texts.
func TestToldHash(t *testing.T) {
	row := anyRow(rand.New(rand.NewSource(11)), 8)
	kept := slices.Clone(row)
	path, way := row[2:4], row[5:7]
	l, is := both(row[0], 1, path, row[1], way, blind)
	if !is || !slices.Equal(row, kept) {
		t.Errorf("%q, %v", l, is)
	}
	was := slices.Clone(l)
	clear(row)
	if !slices.Equal(l, was) {
		t.Error("the rows handed in are seen")
	}
	for i, text := range l {
		if h, e := tag.Hash(7, []string{text[13:45], text[53:]}); e != api.OK || h != tag.Pair(api.KKeys, api.Hash([]byte(text[13:45])), api.Hash([]byte(text[53:]))) {
			t.Errorf("%d: %q", i, text)
		}
	}
	copy(row, kept)
	if climb(row[0], 6, row[1:], tag.Pair) != Climb(row[0], 6, row[1:]) {
		t.Error("Climb")
	}
	if l, is := Both(row[0], 0, path, row[1], way); l != nil || is {
		t.Errorf("Both: %q, %v", l, is)
	}
}

// anyRow are so many hashes, any ones.
func anyRow(r *rand.Rand, many int) []api.Hash {
	row := make([]api.Hash, many)
	for i := range row {
		r.Read(row[i][:])
	}
	return row
}
