package scene_test

import (
	"math/rand"
	"slices"
	"strings"
	"testing"

	"tabulary/api"
	"tabulary/disk"
	"tabulary/scene"
)

// bytesOf is in how many sectors a text begins, that doesn't go on behind the last one: place by place.
func bytesOf(sectors []string, s string) int {
	row, many, from := strings.Join(sectors, ""), 0, 0
	for _, sector := range sectors {
		for at := from; at < from+len(sector) && s != ""; at++ {
			if strings.HasPrefix(row[at:], s) {
				many++
				break
			}
		}
		from += len(sector)
	}
	return many
}

// withSectors is a logger of a disk with these sectors, filled up with dots behind, or ahead where that is said.
func withSectors(t *testing.T, sectors ...string) api.Logger {
	t.Helper()
	g := began(t, with(ourConf(), func(c *api.Conf) { c.Many, c.Size = len(sectors), 96 }))
	for i, s := range sectors {
		fill := strings.Repeat(".", 96-len(s)+strings.Count(s, "|"))
		g.D.Kept[i] = strings.Replace(s, "|", fill, 1)
		if !strings.Contains(s, "|") {
			g.D.Kept[i] = s + fill
		}
	}
	return g
}

// P20.2: by hand, on sectors that a | fills up.
func TestBytesByHand(t *testing.T) {
	wide := strings.Repeat("w", 96)
	for _, x := range []struct {
		what    string
		sectors []string
		s       string
		many    int
	}{
		{"in none", []string{"a", "b"}, "c", 0}, {"in one", []string{"text", "b"}, "text", 1}, {"in the second one", []string{"a", "text"}, "text", 1},
		{"in several", []string{"text", "b", "text"}, "text", 2}, {"in all", []string{"text", "|text", "a text"}, "text", 3},
		{"twice in one", []string{"text text", "a"}, "text", 1}, {"twice in one, and in another one", []string{"text|text", "text"}, "text", 2},
		{"in one, and over its end", []string{"text|te", "xt"}, "text", 1}, {"over its end, and in the next one", []string{"|te", "xt text"}, "text", 2},
		{"twice, one within the other", []string{"aXaXa", "b"}, "aXa", 1}, {"one within the other, over the end", []string{"|aXaX", "aXaXa"}, "aXaXa", 2},
		{"over the end", []string{"|te", "xt"}, "text", 1}, {"over the end by its last byte", []string{"|tex", "t"}, "text", 1}, {"over the end by all but its first byte", []string{"|t", "ext"}, "text", 1},
		{"beginning with the next one", []string{"a", "text"}, "text", 1}, {"over two ends", []string{"|te", wide, "xt"}, "te" + wide + "xt", 1},
		{"over two ends, to the second one's end", []string{"|te", wide, "xt"}, "te" + wide, 1}, {"begun over two ends, but not ended", []string{"|te", wide, "x"}, "te" + wide + "xt", 0},
		{"at the end of all", []string{"a", "|text"}, "text", 1}, {"over the end of the last but one, to the end of all", []string{"a", "|text", wide}, "text" + wide, 1},
		{"begun at the end of all", []string{"a", "|tex"}, "text", 0}, {"begun there, not gone on with at the beginning", []string{"t", "|tex"}, "text", 0}, {"by its last byte", []string{"a", "|t"}, "text", 0},
		{"not over the end, as one is between", []string{"|te", "a", "xt"}, "text", 0}, {"in capitals", []string{"TEXT", "Text"}, "text", 0},
		{"a byte", []string{"a", "|a", "b"}, "a", 2}, {"a byte in all", []string{"a", "b", wide[:95]}, ".", 3}, {"a byte in two", []string{"a", "b", wide}, ".", 2}, {"the last byte", []string{wide, "|a"}, "a", 1},
		{"a sector", []string{wide, "a", wide}, wide, 2}, {"sectors of one byte", []string{wide, wide, wide}, "ww", 3}, {"all of one byte, so long that it begins in two", []string{wide, wide, wide}, wide + "w", 2},
		{"all of one byte", []string{wide, wide, wide}, wide + wide + wide, 1}, {"one byte longer", []string{wide, wide, wide}, wide + wide + wide + "w", 0}, {"all but a byte", []string{wide, wide, wide}, wide + wide + wide[1:], 1},
		{"nothing", []string{"a", "b"}, "", 0}, {"nothing, of one", []string{wide}, "", 0}, {"bytes of 0", []string{"\x00\x00\x00", "\x00"}, "\x00\x00", 1},
	} {
		g := withSectors(t, x.sectors...)
		if many := scene.Bytes(g, x.s); many != x.many {
			t.Errorf("%s: %d, not %d", x.what, many, x.many)
		}
		if many := bytesOf(g.D.Kept, x.s); many != x.many {
			t.Errorf("%s, place by place: %d, not %d", x.what, many, x.many)
		}
	}
}

// P20.2: on any disks of few unlike bytes, with writes that aren't synced, place by place.
func TestBytes(t *testing.T) {
	r := rand.New(rand.NewSource(21))
	text := func(n, letters int) string {
		b := make([]byte, n)
		for i := range b {
			b[i] = "abc"[r.Intn(letters)]
		}
		return string(b)
	}
	found := map[int]int{}
	for range 3000 {
		many, size, letters := 1+r.Intn(6), 96+r.Intn(9), 1+r.Intn(3)
		d := api.Disk{Size: size, Off: r.Intn(2) == 0}
		for range many {
			d.Kept = append(d.Kept, text(size, letters))
		}
		for range r.Intn(4) {
			d.W = append(d.W, api.Write{At: r.Intn(many), S: text(1+r.Intn(size), letters)})
		}
		image := disk.Image(d)
		row := strings.Join(image, "")
		from := r.Intn(len(row))
		long := []int{r.Intn(12), r.Intn(12), size + r.Intn(3), r.Intn(2 * size), len(row)}[r.Intn(5)]
		for _, s := range []string{row[from:min(from+long, len(row))], text(1+r.Intn(9), letters), row, row + "a", row[1:], row[:len(row)-1], row[max(0, len(row)-long):], "a" + row, row[from:] + row[:from]} {
			want := bytesOf(image, s)
			if got := scene.Bytes(api.Logger{D: d}, s); got != want {
				t.Fatalf("%q in %d of %d: %d, not %d", s, many, size, got, want)
			}
			found[want]++
		}
	}
	if len(found) != 7 || slices.Min([]int{found[0], found[1], found[2], found[3], found[4], found[5], found[6]}) < 100 {
		t.Errorf("too little by chance: %v", found)
	}
}

// P20.2, P20.6: the text of an event that is there, of one that was deleted, of one that was never taken, of one that was lost.
func TestBytesOfEvents(t *testing.T) {
	c := ourConf()
	p := playOf(t, c)
	one, two, long, lost := messageOf(5, "first"), messageOf(6, "second"), longMessage(7, 100), messageOf(4, "lost")
	wantBytes := func(what string, s string, want int) {
		t.Helper()
		was := hold(p.g)
		if got := scene.Bytes(was.g, s); got != want || want != bytesOf(disk.Image(p.g.D), s) {
			t.Errorf("%s: %q in %d, not %d", what, s, got, want)
		}
		was.wantUntouched(t, what)
	}
	p.do(t, take(one), take(two), take(one), take(long))
	for _, x := range []struct {
		s    string
		many int
	}{{one, 2}, {two, 1}, {"first", 2}, {"second", 1}, {long, 1}, {long[5:], 1}, {long[60:], 2}, {"x", 2}, {lost, 0}, {"third", 0}, {"", 0}} {
		wantBytes("not synced", x.s, x.many)
	}
	p.do(t, drop(1), take(lost))
	for _, x := range []struct {
		s    string
		many int
	}{{one, 2}, {two, 0}, {"second", 0}, {"first", 2}, {long, 1}, {lost, 1}} {
		wantBytes("the second one deleted", x.s, x.many)
	}
	p.do(t, crash(), drop(0), drop(3), take(two))
	for _, x := range []struct {
		s    string
		many int
	}{{one, 1}, {two, 1}, {long, 0}, {"x", 0}, {lost, 0}, {"lost", 0}, {"second", 1}} {
		wantBytes("one more behind a crash", x.s, x.many)
	}
	image := strings.Join(disk.Image(p.g.D), "")
	wantBytes("the whole image", image, 1)
	wantBytes("one byte longer", image+"\x00", 0)
	wantBytes("all but the last byte", image[1:], 1)
	wantBytes("the last bytes", strings.Repeat("\x00", 128), bytesOf(disk.Image(p.g.D), strings.Repeat("\x00", 128)))
	p.g = cut(p.g)
	wantBytes("without power", two, 1)
}

// P20.2: the greatest disk, and texts in it that are long: it ends soon.
func TestBytesGreat(t *testing.T) {
	g := began(t, with(ourConf(), func(c *api.Conf) { c.Many, c.Size = 4096, 1024 }))
	none := strings.Repeat("\x00", 2<<20)
	for _, x := range []struct {
		s    string
		many int
	}{{"\x00", 4096}, {none, 2049}, {none + "a", 0}, {"a" + none, 0}, {none + none, 1}, {none + none + "\x00", 0}, {"a", 0}} {
		if got := scene.Bytes(g, x.s); got != x.many {
			t.Errorf("%d bytes: %d, not %d", len(x.s), got, x.many)
		}
	}
	g.D.Kept[4095] = g.D.Kept[4095][:1023] + "a"
	if got := scene.Bytes(g, none+"a"); got != 1 {
		t.Error(got)
	}
	if got := scene.Bytes(api.Logger{}, "a"); got != 0 {
		t.Errorf("no disk: %d", got)
	}
}
