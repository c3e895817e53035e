package scene_test

import (
	"fmt"
	"regexp"
	"strconv"
	"strings"
	"testing"
	"unicode/utf8"

	"tabulary/api"
	"tabulary/keys"
	"tabulary/scene"
)

// A rec is a record of a disk: the text that it was written with, and whether it was wiped.
type rec struct {
	s     string
	wiped bool
}

// A row is what a log has to be, as it is known from what was done to it.
type row struct {
	c      api.Conf
	off    bool
	recs   []rec // one behind the other, from the first sector on
	synced int   // how many of these are
	l      []api.Slot
	at     []int // which records are those of the events
	next   int   // the next key
}

// A want is what has to be told: a state with the key that signs it, if states.
type want struct {
	e      api.Errno
	i      int
	states bool
	s      api.State
	key    int
}

// message is how the messages of messageOf look.
var message = regexp.MustCompile(`(?s)^<(8|9|1[0-5])>1 - h - - - -( .+)?$`)

// slotOf is the event of a message of messageOf, by a rule; of another text there is none.
func slotOf(s string, r api.Rule) (api.Slot, bool) {
	found := message.FindStringSubmatch(s)
	if found == nil || !utf8.ValidString(s) {
		return api.Slot{}, false
	}
	n, _ := strconv.Atoi(found[1])
	b := api.Brief{Grave: 1 << (n - 8), From: 2, Many: 1, Keep: n-8 <= r.Grave}
	return api.Slot{S: s, H: hashOf(1, s), B: b}, true
}

// sectorsOf are all sectors of records.
func (w *row) sectorsOf(l []rec) []string {
	var out []string
	for _, x := range l {
		out = append(out, rowOf(w.c.Size, x)...)
	}
	return out
}

// fits: is there room for a record of that text?
func (w *row) fits(text string) bool {
	return len(w.sectorsOf(w.recs))+len(rowOf(w.c.Size, rec{s: text})) <= w.c.Many
}

// logger is the logger that has to be.
func (w *row) logger() api.Logger {
	g := api.Logger{G: api.Signer{K: w.c.K, Next: w.next}, L: api.Log{L: w.l, Links: linksOf(w.l)}, R: w.c.R}
	g.D = api.Disk{Size: w.c.Size, Kept: w.sectorsOf(w.recs[:w.synced]), Off: w.off}
	g.At = len(g.D.Kept)
	for _, s := range w.sectorsOf(w.recs[w.synced:]) {
		g.D.W = append(g.D.W, api.Write{At: g.At, S: s})
		g.At++
	}
	for len(g.D.Kept) < w.c.Many {
		g.D.Kept = append(g.D.Kept, strings.Repeat("\x00", w.c.Size))
	}
	for _, i := range w.at {
		g.Recs = append(g.Recs, len(w.sectorsOf(w.recs[:i])))
	}
	return copyOf(g)
}

// do is what has to be told of an act.
func (w *row) do(a api.Act) want {
	if a.Kind == 4 {
		w.crash(a.Keep)
		return want{}
	}
	if a.Kind < 0 || a.Kind > 4 {
		return want{e: 1}
	}
	if w.off {
		return want{e: 14}
	}
	switch a.Kind {
	case 0:
		return w.ingest(a.S)
	case 1:
		return w.commit()
	case 3:
		return w.delete(a.I)
	}
	w.synced = len(w.recs)
	return want{}
}

// ingest takes a message.
func (w *row) ingest(s string) want {
	x, is := slotOf(s, w.c.R)
	switch {
	case len(s) > w.c.R.Bytes:
		return want{e: 4}
	case !is:
		return want{e: 3}
	case len(w.l) >= w.c.R.Events || !w.fits(eventText(s)):
		return want{e: 6}
	}
	w.at = append(w.at, len(w.recs))
	w.recs, w.l = append(w.recs, rec{s: eventText(s)}), append(w.l, x)
	return want{i: len(w.l) - 1}
}

// commit signs the state.
func (w *row) commit() want {
	key := w.next
	switch {
	case key == 1<<w.c.K.Height:
		return want{e: 7}
	case !w.fits(stateText(key)):
		return want{e: 6}
	}
	w.recs, w.next = append(w.recs, rec{s: stateText(key)}), key+1
	w.synced = len(w.recs)
	return want{states: true, s: stateOf(w.l), key: key}
}

// delete deletes an event.
func (w *row) delete(i int) want {
	switch {
	case i < 0 || i >= len(w.l):
		return want{e: 5}
	case w.l[i].B.Keep:
		return want{e: 8}
	case w.l[i].Gone:
		return want{e: 9}
	case !w.fits(deletionText(i, w.l[i])):
		return want{e: 6}
	}
	w.recs = append(w.recs, rec{s: deletionText(i, w.l[i])})
	w.l[i], w.recs[w.at[i]].wiped, w.synced = goneOf(w.l[i]), true, len(w.recs)
	return want{}
}

// crash leaves of the records that aren't synced, all of which are events', those ahead of the first one that isn't whole.
func (w *row) crash(keep []int) {
	w.off = false
	for _, x := range w.recs[w.synced:] {
		whole := true
		for _, sector := range rowOf(w.c.Size, x) {
			n := 0
			if len(keep) > 0 {
				n, keep = min(max(keep[0], 0), w.c.Size), keep[1:]
			}
			// Ahead of the write the sector had bytes of 0.
			whole = whole && strings.Trim(sector[n:], "\x00") == ""
		}
		if !whole {
			break
		}
		w.synced++
	}
	many := len(w.l) - (len(w.recs) - w.synced)
	w.recs, w.l, w.at = w.recs[:w.synced], w.l[:many], w.at[:many]
}

// A play is a log, and the row that it has to be.
type play struct {
	g    api.Logger
	w    *row
	root api.Hash
	told []api.Told
}

// playOf is a log that begins.
func playOf(t *testing.T, c api.Conf) *play {
	t.Helper()
	return &play{g: began(t, c), w: &row{c: c}, root: keys.Root(c.K)}
}

// do does acts, and fails the test, unless each is told what has to be, and the logger is the one that has to be.
func (p *play) do(t *testing.T, l ...api.Act) {
	t.Helper()
	for i, a := range l {
		what := fmt.Sprintf("act %d, %+v", i, a)
		was := hold(p.g)
		g, x := scene.Do(was.g, a)
		was.wantUntouched(t, what)
		p.wantTold(t, what, x, p.w.do(a))
		wantSame(t, what, g, p.w.logger())
		p.g, p.told = g, append(p.told, x)
	}
}

// wantTold fails the test, unless that is told, and nothing else.
func (p *play) wantTold(t *testing.T, what string, x api.Told, w want) {
	t.Helper()
	if x.E != w.e || x.I != w.i {
		t.Errorf("%s: error %d, number %d; not %d, %d", what, x.E, x.I, w.e, w.i)
	}
	switch {
	case !w.states && !isNoState(x.X):
		t.Errorf("%s: a state %+v", what, x.X)
	case w.states && (x.X.S != w.s || !isSignedBy(p.root, p.w.c.K, w.key, x.X)):
		t.Errorf("%s: %+v by key %d; not %+v by %d", what, x.X.S, x.X.G.Key, w.s, w.key)
	}
}

// The row itself, by hand.
func TestRow(t *testing.T) {
	w := row{c: ourConf()}
	for i, x := range []want{w.do(take(messageOf(1, "a"))), w.do(take(longMessage(5, 100))), w.do(drop(1)), w.do(take(messageOf(6, "b")))} {
		if x.e != 0 || x.i != []int{0, 1, 0, 2}[i] {
			t.Errorf("%d: %+v", i, x)
		}
	}
	g := w.logger()
	if len(g.D.Kept) != 40 || g.At != 6 || len(g.Recs) != 3 || g.Recs[1] != 1 || g.Recs[2] != 5 || len(g.D.W) != 1 || g.D.W[0].At != 5 || !g.L.L[1].Gone || g.L.L[2].B.Grave != 64 || !g.L.L[0].B.Keep {
		t.Errorf("%s, %+v", inWords(g), g.L.L)
	}
	w.do(crash(90))
	if g := w.logger(); len(g.L.L) != 2 || g.At != 5 || len(g.D.W) != 0 {
		t.Error(inWords(g))
	}
	if x := w.do(commit()); !x.states || x.s.N != 2 || w.do(commit()).key != 1 {
		t.Errorf("%+v", x)
	}
}
