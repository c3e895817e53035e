package sha_test

import (
	"crypto/sha256"
	"encoding"
	"encoding/binary"
	"encoding/hex"
	"fmt"
	"math"
	"math/big"
	"math/rand"
	"slices"
	"strings"
	"sync"
	"testing"

	"tabulary/api"
	"tabulary/sha"
	"tabulary/word"
)

// sizes are the numbers of bytes at which the filling up changes, and some around them.
func sizes() []int {
	return []int{0, 1, 2, 31, 32, 54, 55, 56, 57, 62, 63, 64, 65, 66, 118, 119, 120, 121, 127, 128, 129, 191, 192, 193, 1000, api.MaxText}
}

// sample is a text of that many bytes which differ.
func sample(n int) string {
	b := make([]byte, n)
	rand.New(rand.NewSource(int64(n))).Read(b)
	return string(b)
}

// libraryBlock is what the library's hash makes of these words and that block.
func libraryBlock(t *testing.T, h [8]uint32, block string) [8]uint32 {
	t.Helper()
	return libraryWrite(t, api.Sha{H: h}, block).H
}

// libraryState are the bytes by which the library takes up a hash that is not done yet.
func libraryState(s api.Sha) []byte {
	out := []byte("sha\x03")
	for _, w := range s.H {
		out = binary.BigEndian.AppendUint32(out, w)
	}
	out = append(out, s.Buf...)
	out = append(out, make([]byte, 64-len(s.Buf))...)
	return binary.BigEndian.AppendUint64(out, s.N)
}

// libraryWrite writes a text by the library's hash.
func libraryWrite(t *testing.T, s api.Sha, text string) api.Sha {
	t.Helper()
	h := sha256.New()
	if err := h.(encoding.BinaryUnmarshaler).UnmarshalBinary(libraryState(s)); err != nil {
		t.Fatal(err)
	}
	h.Write([]byte(text))
	b, err := h.(encoding.BinaryMarshaler).MarshalBinary()
	if err != nil {
		t.Fatal(err)
	}
	out := api.Sha{N: binary.BigEndian.Uint64(b[100:])}
	for i := range out.H {
		out.H[i] = binary.BigEndian.Uint32(b[4+4*i:])
	}
	out.Buf = string(b[36 : 36+out.N%64])
	return out
}

// libraryEnd ends a hash by the library's.
func libraryEnd(t *testing.T, s api.Sha) api.Hash {
	t.Helper()
	h := sha256.New()
	if err := h.(encoding.BinaryUnmarshaler).UnmarshalBinary(libraryState(s)); err != nil {
		t.Fatal(err)
	}
	return api.Hash(h.Sum(nil))
}

// roots are the first 32 bits behind the point of the cube roots of the first 64 primes.
func roots() [64]uint32 {
	var out [64]uint32
	at := 0
	for p := int64(2); at < len(out); p++ {
		if !big.NewInt(p).ProbablyPrime(10) {
			continue
		}
		// r is the greatest number whose cube is at most p times 2^96.
		goal := new(big.Int).Lsh(big.NewInt(p), 96)
		r := new(big.Int)
		for bit := 40; bit >= 0; bit-- {
			r.SetBit(r, bit, 1)
			if new(big.Int).Exp(r, big.NewInt(3), nil).Cmp(goal) > 0 {
				r.SetBit(r, bit, 0)
			}
		}
		out[at] = uint32(r.Uint64())
		at++
	}
	return out
}

// roundsOver are the words ahead of a block's rounds, if behind them they are all 0.
func roundsOver(t *testing.T, block string) [8]uint32 {
	t.Helper()
	spread, e := word.Spread(block)
	if e != api.OK {
		t.Fatal(e)
	}
	var v [8]uint32
	k := roots()
	for i := 63; i >= 0; i-- {
		a, b, c, e, f, g := v[1], v[2], v[3], v[5], v[6], v[7]
		u := word.Big(a, 0) + word.Most(a, b, c)
		sum := v[0] - u
		d := v[4] - sum
		h := sum - word.Big(e, 1) - word.Choose(e, f, g) - k[i] - spread[i]
		v = [8]uint32{a, b, c, d, e, f, g, h}
	}
	return v
}

// P2.1: Start.
func TestStart(t *testing.T) {
	want := api.Sha{H: [8]uint32{0x6a09e667, 0xbb67ae85, 0x3c6ef372, 0xa54ff53a, 0x510e527f, 0x9b05688c, 0x1f83d9ab, 0x5be0cd19}}
	if s := sha.Start(); s != want {
		t.Errorf("%x", s)
	}
	if !sha.Right(sha.Start()) {
		t.Error("not right")
	}
}

// P2.1: Block, by the standard's example of abc.
func TestBlockExample(t *testing.T) {
	block := "abc\x80" + strings.Repeat("\x00", 59) + "\x18"
	h, e := sha.Block(sha.Start().H, block)
	want := [8]uint32{0xba7816bf, 0x8f01cfea, 0x414140de, 0x5dae2223, 0xb00361a3, 0x96177a9c, 0xb410ff61, 0xf20015ad}
	if h != want || e != api.OK {
		t.Errorf("%x, %d", h, e)
	}
}

// P2.1: Block, at words and blocks of any kind.
func TestBlockByLibrary(t *testing.T) {
	r := rand.New(rand.NewSource(1))
	words := [][8]uint32{sha.Start().H, {}}
	ones := [8]uint32{}
	for i := range ones {
		ones[i] = math.MaxUint32
	}
	words = append(words, ones)
	for range 20 {
		var h [8]uint32
		for i := range h {
			h[i] = r.Uint32()
		}
		words = append(words, h)
	}
	texts := []string{strings.Repeat("\x00", 64), strings.Repeat("\xff", 64), sample(64), sample(65)[1:]}
	for _, h := range words {
		for _, block := range texts {
			got, e := sha.Block(h, block)
			if want := libraryBlock(t, h, block); got != want || e != api.OK {
				t.Errorf("%x, %x: %x, %d, not %x", h, block, got, e, want)
			}
		}
	}
}

// P2.1: Block, at words of which nothing is left behind the rounds: what is added to h is 0.
func TestBlockThatAddsNothing(t *testing.T) {
	for _, block := range []string{sample(64), strings.Repeat("\x00", 64)} {
		h := roundsOver(t, block)
		if got, e := sha.Block(h, block); got != h || e != api.OK || got != libraryBlock(t, h, block) {
			t.Errorf("%x: %x, %d", h, got, e)
		}
	}
}

// P2.1: Block, at texts that are no block.
func TestBlockRefused(t *testing.T) {
	h := [8]uint32{1, 2, 3, 4, 5, 6, 7, 8}
	for _, n := range []int{0, 1, 16, 32, 63, 65, 128, 1000} {
		_, want := word.Spread(sample(n))
		if got, e := sha.Block(h, sample(n)); got != h || e != want || e != api.ErrArg {
			t.Errorf("%d bytes: %x, %d", n, got, e)
		}
	}
}

// P2.2: Right.
func TestRight(t *testing.T) {
	for n := range 130 {
		for _, rest := range []uint64{0, 1, 2, 31, 62, 63} {
			for _, blocks := range []uint64{0, 64, 128, 64 * 1000, math.MaxUint64 - 63} {
				s := api.Sha{H: [8]uint32{9}, Buf: sample(n), N: blocks + rest}
				if got, want := sha.Right(s), n <= 63 && uint64(n) == rest; got != want {
					t.Errorf("%d bytes of %d: %v", n, s.N, got)
				}
			}
		}
	}
}

// P2.2: Right, where Buf has whole blocks, and N as many bytes.
func TestRightOfWholeBlocks(t *testing.T) {
	for _, n := range []int{64, 65, 127, 128, 64 + 256} {
		if sha.Right(api.Sha{Buf: sample(n), N: uint64(n)}) {
			t.Errorf("%d bytes", n)
		}
	}
}

// P2.2: Write, by the library's hash.
func TestWriteByLibrary(t *testing.T) {
	for _, first := range sizes() {
		s := sha.Write(sha.Start(), sample(first))
		if want := libraryWrite(t, sha.Start(), sample(first)); s != want || !sha.Right(s) {
			t.Errorf("%d bytes: %x, not %x", first, s, want)
		}
		for _, second := range sizes()[:20] {
			got := sha.Write(s, sample(second))
			if want := libraryWrite(t, s, sample(second)); got != want || !sha.Right(got) {
				t.Errorf("%d, %d bytes: %x, not %x", first, second, got, want)
			}
		}
	}
}

// P2.2: Write leaves the sha that was handed in as it was.
func TestWriteTwiceFromOneSha(t *testing.T) {
	s := sha.Write(sha.Start(), sample(70))
	before := api.Sha{H: s.H, Buf: strings.Clone(s.Buf), N: s.N}
	one := sha.Write(s, sample(64))
	if two := sha.Write(s, sample(64)); one != two || s != before {
		t.Errorf("%x, %x, %x", one, two, s)
	}
	if one, two := sha.End(s), sha.End(s); one != two || s != before {
		t.Errorf("%x, %x, %x", one, two, s)
	}
}

// P2.2: Write, End: N goes round.
func TestWriteGoesRound(t *testing.T) {
	for _, x := range []struct {
		n    uint64
		more int
		want uint64
	}{
		{math.MaxUint64, 0, math.MaxUint64},
		{math.MaxUint64, 1, 0},
		{math.MaxUint64, 2, 1},
		{math.MaxUint64 - 31, 31, math.MaxUint64},
		{math.MaxUint64 - 31, 32, 0},
		{math.MaxUint64 - 31, 64, 32},
		{math.MaxUint64 - 63, 63, math.MaxUint64},
		{math.MaxUint64 - 63, 64, 0},
		{math.MaxUint64 - 63, 1000, 936},
	} {
		s := api.Sha{H: [8]uint32{1, 2, 3}, Buf: sample(int(x.n % 64)), N: x.n}
		got := sha.Write(s, sample(x.more))
		if got.N != x.want || !sha.Right(got) || got != libraryWrite(t, s, sample(x.more)) {
			t.Errorf("%d and %d bytes: %x", x.n, x.more, got)
		}
		if h := sha.End(got); h != libraryEnd(t, got) {
			t.Errorf("%d and %d bytes: %x", x.n, x.more, h)
		}
	}
}

// P2.2: End, where 8 times N goes round.
func TestEndOfManyBytes(t *testing.T) {
	for _, n := range []uint64{1 << 32, 1<<61 - 1, 1 << 61, 1<<61 + 1, 1<<61 + 55, 1<<61 + 56, 1<<63 + 63, math.MaxUint64 - 8, math.MaxUint64} {
		s := api.Sha{H: [8]uint32{5, 4, 3, 2, 1}, Buf: sample(int(n % 64)), N: n}
		if h := sha.End(s); h != libraryEnd(t, s) {
			t.Errorf("%d bytes: %x", n, h)
		}
	}
}

// P2.2: Sum, by the standard's examples.
func TestSumExamples(t *testing.T) {
	for _, x := range []struct{ text, want string }{
		{"", "e3b0c44298fc1c149afbf4c8996fb92427ae41e4649b934ca495991b7852b855"},
		{"abc", "ba7816bf8f01cfea414140de5dae2223b00361a396177a9cb410ff61f20015ad"},
		{"abcdbcdecdefdefgefghfghighijhijkijkljklmklmnlmnomnopnopq", "248d6a61d20638b8e5c026930c3e6039a33ce45964ff2167f6ecedd419db06c1"},
		{strings.Repeat("a", 1000000), "cdc76e5c9914fb9281a1c7e284d73e67f1809a48a497200e046d39ccc7112cd0"},
	} {
		if got := sha.Text(sha.Sum(x.text)); got != x.want {
			t.Errorf("%d bytes: %s", len(x.text), got)
		}
	}
}

// P2.2: Sum, by the library's hash; it is End of Write of Start.
func TestSumByLibrary(t *testing.T) {
	for _, n := range append(sizes(), 100000) {
		text := sample(n)
		want := api.Hash(sha256.Sum256([]byte(text)))
		if got := sha.Sum(text); got != want {
			t.Errorf("%d bytes: %x", n, got)
		}
		if got := sha.End(sha.Write(sha.Start(), text)); got != want {
			t.Errorf("%d bytes: %x", n, got)
		}
	}
	for n := range 260 {
		if got := sha.Sum(sample(n)); got != api.Hash(sha256.Sum256([]byte(sample(n)))) {
			t.Errorf("%d bytes: %x", n, got)
		}
	}
}

// P2.2: Cost.
func TestCostOfOne(t *testing.T) {
	for _, x := range []struct{ n, want int }{{0, 1}, {1, 1}, {54, 1}, {55, 1}, {56, 2}, {63, 2}, {64, 2}, {65, 2}, {119, 2}, {120, 3}, {128, 3}, {api.MaxText, 1025}} {
		if got := sha.Cost([]string{sample(x.n)}); got != x.want {
			t.Errorf("%d bytes: %d", x.n, got)
		}
	}
}

// P2.2: Cost is that of each text, added, and the same whenever it is asked for.
func TestCostOfMany(t *testing.T) {
	if got := sha.Cost(nil) + sha.Cost([]string{}); got != 0 {
		t.Error(got)
	}
	texts, want := []string{}, 0
	for n := range 300 {
		texts = append(texts, sample(n))
		want += (n + 1 + 8 + 63) / 64
		sha.Sum(texts[n])
	}
	for range 3 {
		if got := sha.Cost(texts); got != want {
			t.Errorf("%d, not %d", got, want)
		}
	}
	long := strings.Repeat("x", 1<<20)
	if got := sha.Cost(slices.Repeat([]string{long, ""}, 1000)); got != 1000*(1<<14+1+1) {
		t.Error(got)
	}
}

// P2.2: Text.
func TestText(t *testing.T) {
	for low := range 256 {
		var h api.Hash
		for i := range h {
			h[i] = byte(low + 7*i)
		}
		if got, want := sha.Text(h), hex.EncodeToString(h[:]); got != want {
			t.Errorf("%s, not %s", got, want)
		}
	}
	if got := sha.Text(api.Hash{0: 0xab, 31: 0x0c}); got != "ab"+strings.Repeat("0", 61)+"c" {
		t.Error(got)
	}
}

// P2.2: Of.
func TestOf(t *testing.T) {
	for n := range 100 {
		h, e := sha.Of(sample(n))
		if n != 32 && (h != api.Hash{} || e != api.ErrArg) {
			t.Errorf("%d bytes: %x, %d", n, h, e)
		}
		if n == 32 && (string(h[:]) != sample(n) || e != api.OK) {
			t.Errorf("%d bytes: %x, %d", n, h, e)
		}
	}
	// A hash's hexadecimals are not its bytes.
	if h, e := sha.Of(sha.Text(sha.Sum("abc"))); (h != api.Hash{}) || e != api.ErrArg {
		t.Errorf("%x, %d", h, e)
	}
	want := sha.Sum("abc")
	if h, e := sha.Of(string(want[:])); h != want || e != api.OK {
		t.Errorf("%x, %d", h, e)
	}
}

// P2.3: a text cut at every place, once and twice.
func TestCutAtEveryPlace(t *testing.T) {
	for _, n := range []int{0, 1, 55, 56, 63, 64, 65, 119, 120, 130} {
		text := sample(n)
		want := api.Hash(sha256.Sum256([]byte(text)))
		for one := range n + 1 {
			head := sha.Write(sha.Start(), text[:one])
			for two := one; two <= n; two++ {
				s := sha.Write(sha.Write(head, text[one:two]), text[two:])
				if got := sha.End(s); got != want || !sha.Right(s) || s != sha.Write(sha.Start(), text) {
					t.Fatalf("%d bytes, cut at %d and %d: %x", n, one, two, got)
				}
			}
		}
	}
}

// P2.3: a text cut into pieces of one size, and of any sizes, some of which are empty.
func TestCutIntoMany(t *testing.T) {
	text := sample(1000)
	want := sha.Sum(text)
	for size := 1; size <= 200; size++ {
		s := sha.Start()
		for piece := range slices.Chunk([]byte(text), size) {
			s = sha.Write(s, string(piece))
		}
		if got := sha.End(s); got != want {
			t.Errorf("pieces of %d: %x", size, got)
		}
	}
	r := rand.New(rand.NewSource(3))
	for range 200 {
		s, cuts := sha.Start(), ""
		for rest := text; rest != ""; {
			n := min(r.Intn(150), len(rest))
			s, rest = sha.Write(s, rest[:n]), rest[n:]
			cuts += fmt.Sprint(" ", n)
		}
		if got := sha.End(s); got != want {
			t.Errorf("pieces of%s: %x", cuts, got)
		}
	}
}

// P2.1, P2.2: many who ask at the same time get what one alone does.
func TestManyAtOnce(t *testing.T) {
	var done sync.WaitGroup
	got, costs := make([]api.Hash, 32), make([]int, 32)
	for i := range got {
		done.Go(func() {
			got[i] = sha.Sum(sample(i))
			costs[i] = sha.Cost([]string{sample(i), sample(56)})
		})
	}
	done.Wait()
	for i, h := range got {
		if h != api.Hash(sha256.Sum256([]byte(sample(i)))) || costs[i] != 3 {
			t.Errorf("%d: %x, %d", i, h, costs[i])
		}
	}
}

// How long a block of a long text takes.
func BenchmarkSum(b *testing.B) {
	text := sample(64 * 1000)
	b.SetBytes(int64(len(text)))
	for b.Loop() {
		sha.Sum(text)
	}
}
