package keeper_test

import (
	"encoding/binary"
	"fmt"
	"math"
	"math/rand"
	"slices"
	"strings"
	"testing"

	"tabulary/api"
	"tabulary/brief"
	"tabulary/disk"
	"tabulary/keeper"
	"tabulary/store"
	"tabulary/sysl"
)

// eventOf is the message that a record's text tells.
func eventOf(s string) (string, bool) {
	return s[min(13, len(s)):], len(s) >= 13 && s == eventText(s[13:])
}

// deletionOf is what a record's text tells of a deletion: a place, and a slot that is right.
func deletionOf(s string) (uint64, api.Slot, bool) {
	if len(s) != 102 || s != laid(2, s[13:21], s[29:61], s[69:]) {
		return 0, api.Slot{}, false
	}
	var b api.Brief
	if _, err := binary.Decode([]byte(s[69:]), binary.BigEndian, &b); err != nil || briefText(b) != s[69:] || !brief.Right(b) {
		return 0, api.Slot{}, false
	}
	return binary.BigEndian.Uint64([]byte(s[13:21])), api.Slot{Gone: true, H: api.Hash([]byte(s[29:61])), B: b}, true
}

// keyOf is what a record's text tells of a state.
func keyOf(s string) (uint64, bool) {
	if len(s) != 21 || s != laid(3, s[13:]) {
		return 0, false
	}
	return binary.BigEndian.Uint64([]byte(s[13:])), true
}

// takenOf takes records one by one, as the promise says, and answers what was found, and how many were taken.
func takenOf(l []api.Record, g api.Logger) (api.Logger, int) {
	for n, x := range l {
		there := len(g.L.L)
		if s, is := eventOf(x.S); is && !x.Wiped {
			m, e := sysl.Parse(s)
			if len(s) > g.R.Bytes || e != api.OK || there == g.R.Events {
				return g, n
			}
			g.L.L, g.Recs = append(g.L.L, api.Slot{S: s, H: hashOf(1, s), B: brief.Of(m, m.Grave <= g.R.Grave)}), append(g.Recs, x.At)
		} else if i, slot, is := deletionOf(x.S); is && !x.Wiped {
			if i >= uint64(there) || g.L.L[i].B.Keep || goneOf(g.L.L[i]) != slot {
				return g, n
			}
			g.L.L[i] = slot
		} else if key, is := keyOf(x.S); is && !x.Wiped {
			if key >= uint64(1)<<g.G.K.Height {
				return g, n
			}
			if int(key)+1 > g.G.Next {
				g.G.Next = int(key) + 1
			}
		} else {
			by := slices.IndexFunc(l, func(y api.Record) bool {
				i, slot, is := deletionOf(y.S)
				return is && !y.Wiped && i == uint64(there) && slot.B.Many == 1 && !slot.B.Keep
			})
			if !x.Wiped || there == g.R.Events || by < 0 {
				return g, n
			}
			_, slot, _ := deletionOf(l[by].S)
			g.L.L, g.Recs = append(g.L.L, slot), append(g.Recs, x.At)
		}
		g.At = x.At + x.Many
	}
	return g, len(l)
}

// recoverOf is what Recover has to answer, of a disk, keys and a rule that are right, with the power on.
func recoverOf(d api.Disk, k api.Keys, r api.Rule) api.Logger {
	l, _, _ := store.Load(d)
	g, n := takenOf(l, api.Logger{G: api.Signer{K: k}, R: r})
	for n < len(l) {
		l = l[:n]
		g, n = takenOf(l, api.Logger{G: api.Signer{K: k}, R: r})
	}
	g.L.Links = linksOf(g.L.L)
	g.D = settled(d)
	for at := g.At; at < len(g.D.Kept); at++ {
		g.D.Kept[at] = strings.Repeat("\x00", d.Size)
	}
	for i, x := range g.L.L {
		rec, _, _ := store.At(g.D, g.Recs[i])
		if x.Gone && !rec.Wiped {
			g.D = onto(g.D, g.Recs[i], wipedOf(d.Size, rec.S))
		}
	}
	return g
}

// A finding is what Recover finds: so many of the records, these events, that next key.
type finding struct {
	many  int
	slots []api.Slot
	next  int
}

// loggerOf is the logger of a finding, of a disk of so many sectors.
func (f finding) loggerOf(many, size int, recs []rec, k api.Keys, r api.Rule) api.Logger {
	g := api.Logger{G: api.Signer{K: k, Next: f.next}, L: logOf(f.slots), R: r}
	recs = slices.Clone(recs[:f.many])
	for i, x := range recs {
		if _, is := eventOf(x.s); is {
			recs[i].wiped = x.wiped || f.slots[len(g.Recs)].Gone
			g.Recs = append(g.Recs, g.At)
		}
		g.At += len(rowOf(size, x.s))
	}
	g.D = diskWith(many, size, recs)
	return g
}

// wantFound fails the test, unless just that is found of records: synced, or not synced yet, and found once more.
func wantFound(t *testing.T, what string, recs []rec, k api.Keys, r api.Rule, f finding) {
	t.Helper()
	for _, size := range []int{96, 300} {
		many := len(sectorsOf(size, recs)) + 3
		want := f.loggerOf(many, size, recs, k, r)
		d := diskWith(many, size, recs)
		if plain := recoverOf(d, k, r); !isSame(plain, want) {
			t.Fatalf("%s: the test itself asks for %s, and %s", what, toldOf(want), toldOf(plain))
		}
		got, e := keeper.Recover(d, k, r)
		wantDone(t, what, got, e, want)
		got, e = keeper.Recover(waiting(empty(many, size), 0, sectorsOf(size, recs)), k, r)
		wantDone(t, what+", not synced", got, e, want)
		got, e = keeper.Recover(got.D, k, r)
		wantDone(t, what+", once more", got, e, want)
	}
}

// P18.4: Recover of a disk of bytes of 0, of one of any bytes: nothing is found, and all is 0.
func TestRecoverNothing(t *testing.T) {
	r := rand.New(rand.NewSource(4))
	for _, many := range []int{1, 2, 40} {
		for _, size := range []int{96, 1024} {
			want := began(t, many, size, ourKeys(2), ourRule())
			for _, d := range []api.Disk{empty(many, size), anyDisk(r, many, size, 0), anyDisk(r, many, size, 5)} {
				got, e := keeper.Recover(d, ourKeys(2), ourRule())
				wantDone(t, "nothing", got, e, want)
			}
		}
	}
	want := began(t, 4096, 96, ourKeys(2), ourRule())
	got, e := keeper.Recover(anyDisk(r, 4096, 96, 9), ourKeys(2), ourRule())
	wantDone(t, "nothing", got, e, want)
}

// P18.4: Recover of records of each kind, alone and together.
func TestRecoverEachKind(t *testing.T) {
	r := ourRule()
	a, b, c := slotOf(1, "a", r), slotOf(5, "b", r), slotOf(6, strings.Repeat("c", 60), r)
	event := func(x api.Slot) rec { return rec{s: eventText(x.S)} }
	drop := func(i int, x api.Slot) rec { return rec{s: deletionText(i, x)} }
	key := func(n int) rec { return rec{s: stateText(n)} }
	for i, x := range []struct {
		recs []rec
		f    finding
	}{
		{nil, finding{0, nil, 0}},
		{[]rec{event(a)}, finding{1, []api.Slot{a}, 0}},
		{[]rec{event(b), event(b)}, finding{2, []api.Slot{b, b}, 0}},
		{[]rec{event(a), event(b), event(c)}, finding{3, []api.Slot{a, b, c}, 0}},
		{[]rec{key(0)}, finding{1, nil, 1}},
		{[]rec{event(a), key(0), event(c), key(1)}, finding{4, []api.Slot{a, c}, 2}},
		{[]rec{event(b), drop(0, b)}, finding{2, []api.Slot{goneOf(b)}, 0}},
		{[]rec{event(a), event(b), key(0), drop(1, b), event(c), key(1)}, finding{6, []api.Slot{a, goneOf(b), c}, 2}},
		{[]rec{event(a), event(b), event(c), drop(2, c), drop(1, b)}, finding{5, []api.Slot{a, goneOf(b), goneOf(c)}, 0}},
		// The same one twice: it is gone, and stays so.
		{[]rec{event(b), drop(0, b), drop(0, b), key(0)}, finding{4, []api.Slot{goneOf(b)}, 1}},
		// Wiped: the first one, the last one, several, all; its deletion far behind.
		{[]rec{wiped(b.S), drop(0, b)}, finding{2, []api.Slot{goneOf(b)}, 0}},
		{[]rec{wiped(b.S), event(a), drop(0, b)}, finding{3, []api.Slot{goneOf(b), a}, 0}},
		{[]rec{event(a), wiped(c.S), drop(1, c)}, finding{3, []api.Slot{a, goneOf(c)}, 0}},
		{[]rec{wiped(c.S), event(a), wiped(b.S), key(0), wiped(c.S), drop(2, b), event(b), drop(4, goneOf(c)), drop(0, c), key(1), drop(3, b)}, finding{7, []api.Slot{}, 0}},
		{[]rec{wiped(c.S), event(a), wiped(b.S), key(0), wiped(c.S), drop(2, b), event(b), drop(3, goneOf(c)), drop(0, c), key(1), drop(4, b)}, finding{11, []api.Slot{goneOf(c), a, goneOf(b), goneOf(c), goneOf(b)}, 2}},
	} {
		if i == 13 {
			// A deletion of what isn't there ends it all, and the first record is none then.
			x.f = finding{}
		}
		wantFound(t, fmt.Sprint(i), x.recs, ourKeys(2), r, x.f)
	}
}

// P18.4: a wiped record takes hash and brief from the first deletion's record of its place, whatever stood in it.
func TestRecoverWipedByDeletion(t *testing.T) {
	r := ourRule()
	a, b, c := slotOf(5, "a", r), slotOf(6, "b", r), slotOf(7, "c", r)
	drop := func(i int, x api.Slot) string { return deletionText(i, x) }
	// Of another text, with another brief: what is told counts.
	wantFound(t, "another one", append([]rec{wiped(a.S)}, live(drop(0, b))...), ourKeys(2), r, finding{2, []api.Slot{goneOf(b)}, 0})
	odd := api.Slot{H: api.Hash{1, 2, 3}, B: api.Brief{First: -5, Last: 9, Grave: 255, From: 1<<24 - 1, Many: 1}}
	wantFound(t, "an odd one", append([]rec{wiped(a.S)}, live(drop(0, odd))...), ourKeys(2), r, finding{2, []api.Slot{goneOf(odd)}, 0})
	// Two tell one place: the first one counts, and the second one is none, if it is unlike.
	for _, other := range []api.Slot{b, {H: a.H, B: b.B}, {H: b.H, B: a.B}} {
		wantFound(t, "two unlike", append([]rec{wiped(a.S)}, live(drop(0, a), stateText(0), drop(0, other), stateText(1))...), ourKeys(2), r, finding{3, []api.Slot{goneOf(a)}, 1})
	}
	wantFound(t, "two alike", append([]rec{wiped(a.S)}, live(drop(0, a), stateText(0), drop(0, a), stateText(1))...), ourKeys(2), r, finding{5, []api.Slot{goneOf(a)}, 2})
	// One that may not be such a record doesn't count, though it ends the records, so that the one behind it is gone, too.
	keep, two, none := a, a, a
	keep.B.Keep, two.B.Many, none.B = true, 2, api.Brief{}
	for i, s := range []string{drop(2, keep), drop(2, two), drop(2, none), laid(2, numberText(2), string(a.H[:31]), briefText(a.B)), laid(2, numberText(2)[1:], string(a.H[:]), briefText(a.B))} {
		recs := append(live(eventText(b.S), eventText(c.S)), wiped(a.S))
		wantFound(t, fmt.Sprint("none alone, ", i), slices.Concat(recs, live(s)), ourKeys(2), r, finding{2, []api.Slot{b, c}, 0})
		wantFound(t, fmt.Sprint("none ahead, ", i), slices.Concat(recs, live(s, drop(2, a))), ourKeys(2), r, finding{2, []api.Slot{b, c}, 0})
		wantFound(t, fmt.Sprint("none behind, ", i), slices.Concat(recs, live(drop(2, a), s)), ourKeys(2), r, finding{4, []api.Slot{b, c, goneOf(a)}, 0})
	}
	// A deletion that stands ahead of its event is none, though it tells its place.
	wantFound(t, "ahead of it", []rec{{s: drop(0, a)}, wiped(a.S)}, ourKeys(2), r, finding{})
	wantFound(t, "ahead of the second one", []rec{{s: eventText(b.S)}, {s: drop(1, a)}, wiped(a.S)}, ourKeys(2), r, finding{1, []api.Slot{b}, 0})
	// A deletion's record that was wiped tells nothing, and is an event's.
	wantFound(t, "a wiped deletion", []rec{{s: eventText(b.S)}, wiped(a.S), {s: drop(1, a), wiped: true}}, ourKeys(2), r, finding{1, []api.Slot{b}, 0})
}

// P18.4: a record of something else that was wiped is an event's, if a deletion tells its place.
func TestRecoverOtherWiped(t *testing.T) {
	r := ourRule()
	a := slotOf(5, "a", r)
	for _, s := range []string{stateText(0), deletionText(0, a), "", "no record at all", laid(9)} {
		for _, size := range []int{96, 300} {
			recs := []rec{{s: s, wiped: true}, {s: deletionText(0, a)}}
			got, e := keeper.Recover(diskWith(12, size, recs), ourKeys(2), r)
			if e != api.OK || !slices.Equal(got.L.L, []api.Slot{goneOf(a)}) || !slices.Equal(got.Recs, []int{0}) || got.G.Next != 0 || !isSameDisk(got.D, diskWith(12, size, recs)) || !keeper.Right(got) {
				t.Errorf("%q: %d, %s", s, e, toldOf(got))
			}
		}
	}
}

// P18.4: a wiped record whose place no deletion that is taken tells ends the records: what was there ahead of it is found.
func TestRecoverWipedWithoutDeletion(t *testing.T) {
	r := ourRule()
	a, b, c := slotOf(1, "a", r), slotOf(5, "b", r), slotOf(6, "c", r)
	wantFound(t, "alone", []rec{wiped(b.S)}, ourKeys(2), r, finding{})
	wantFound(t, "first", []rec{wiped(b.S), {s: eventText(a.S)}}, ourKeys(2), r, finding{})
	wantFound(t, "behind some", append(live(eventText(a.S), stateText(2), eventText(c.S)), wiped(b.S), rec{s: stateText(3)}), ourKeys(2), r, finding{3, []api.Slot{a, c}, 3})
	wantFound(t, "another place", append(live(eventText(c.S)), wiped(b.S), rec{s: deletionText(0, c)}), ourKeys(2), r, finding{1, []api.Slot{c}, 0})
	// Its deletion stands behind a record that is none of these: those ahead are taken anew, and it is none then.
	for _, s := range []string{"none", stateText(4), eventText("no message"), deletionText(7, b), laid(1)} {
		recs := append(live(eventText(a.S), stateText(0)), wiped(b.S), rec{s: eventText(c.S)}, rec{s: s}, rec{s: deletionText(1, b)})
		wantFound(t, "behind none", recs, ourKeys(2), r, finding{2, []api.Slot{a}, 1})
		// So are those whose deletions stood behind that one: again, and again.
		recs = append(live(eventText(a.S)), wiped(b.S), rec{s: stateText(0)}, wiped(c.S), rec{s: deletionText(1, b)}, rec{s: s}, rec{s: deletionText(2, c)})
		wantFound(t, "twice behind none", recs, ourKeys(2), r, finding{1, []api.Slot{a}, 0})
		// One whose deletion stands ahead of that stays.
		recs = append(live(eventText(a.S)), wiped(b.S), rec{s: deletionText(1, b)}, rec{s: stateText(0)}, wiped(c.S), rec{s: s}, rec{s: deletionText(2, c)})
		wantFound(t, "one ahead of it", recs, ourKeys(2), r, finding{4, []api.Slot{a, goneOf(b)}, 1})
	}
	// The first deletion's record of its place is one that is not taken any more: none is left.
	recs := append(live(eventText(a.S)), wiped(b.S), rec{s: "none"}, rec{s: deletionText(1, b)}, rec{s: deletionText(1, b)})
	wantFound(t, "both behind none", recs, ourKeys(2), r, finding{1, []api.Slot{a}, 0})
}

// P18.4: each wiped record's deletion stands just behind the next one: the last of them ends all, one by one, quickly.
func TestRecoverInManyRounds(t *testing.T) {
	r := api.Rule{Grave: 2, Bytes: 100, Events: 4096}
	x := slotOf(5, "x", r)
	recs := []rec{{s: eventText(messageOf(1, ""))}, {wiped: true}}
	for i := range 1300 {
		recs = append(recs, rec{wiped: true}, rec{s: deletionText(i+1, x)})
	}
	d := diskWith(4096, 96, recs)
	got, e := keeper.Recover(d, ourKeys(2), r)
	want := finding{1, []api.Slot{slotOf(1, "", r)}, 0}.loggerOf(4096, 96, recs, ourKeys(2), r)
	wantDone(t, "none of them", got, e, want)
	recs = append(recs, rec{s: deletionText(1301, x)})
	got, e = keeper.Recover(diskWith(4096, 96, recs), ourKeys(2), r)
	if e != api.OK || len(got.L.L) != 1302 || got.At != len(sectorsOf(96, recs)) || !keeper.Right(got) {
		t.Errorf("all of them: %d, %d events", e, len(got.L.L))
	}
}

// P18.4: a deletion that was written, whose event's record isn't wiped: it is gone, and its record is wiped then.
func TestRecoverWipes(t *testing.T) {
	r := api.Rule{Grave: 2, Bytes: 400, Events: 10}
	var slots []api.Slot
	var recs []rec
	for i := range 6 {
		slots = append(slots, slotOf(i+1, strings.Repeat("secret", 9*i), r))
		recs = append(recs, rec{s: eventText(slots[i].S)})
	}
	for _, places := range [][]int{{2}, {3}, {5}, {2, 5}, {5, 4, 3, 2}} {
		recs, found := slices.Clone(recs), slices.Clone(slots)
		for _, i := range places {
			recs, found[i] = append(recs, rec{s: deletionText(i, slots[i])}), goneOf(slots[i])
		}
		wantFound(t, fmt.Sprint(places), recs, ourKeys(0), r, finding{len(recs), found, 0})
		// Some were wiped already.
		recs[places[0]].wiped = true
		wantFound(t, fmt.Sprint(places, ", one wiped"), recs, ourKeys(0), r, finding{len(recs), found, 0})
	}
}

// P18.4: a state's record of each key, up to the last one; of one above it, and far out, it is none of these.
func TestRecoverKeys(t *testing.T) {
	for height := range 7 {
		k, many := ourKeys(height), 1<<height
		for key := range many {
			wantFound(t, "one key", live(stateText(key)), k, ourRule(), finding{1, nil, key + 1})
		}
		for _, key := range append(farNumbers(), -1, many, many+1, 1<<63-1, math.MinInt+many-1) {
			wantFound(t, "no key", live(stateText(key)), k, ourRule(), finding{})
			wantFound(t, "no key, behind one", live(stateText(0), stateText(key), stateText(many-1)), k, ourRule(), finding{1, nil, 1})
		}
	}
	for _, x := range []struct{ keys, next []int }{
		{[]int{0, 1, 2, 3}, []int{1, 2, 3, 4}}, {[]int{0, 0, 0}, []int{1, 1, 1}}, {[]int{7, 0, 3, 7}, []int{8, 8, 8, 8}}, {[]int{2, 1, 5, 4, 6}, []int{3, 3, 6, 6, 7}}, {[]int{63, 0}, []int{64, 64}},
	} {
		var texts []string
		for i, key := range x.keys {
			texts = append(texts, stateText(key))
			wantFound(t, fmt.Sprint(x.keys[:i+1]), live(texts...), ourKeys(6), ourRule(), finding{i + 1, nil, x.next[i]})
		}
	}
}

// P18.4: keys of another height than those by which it was written.
func TestRecoverByOtherKeys(t *testing.T) {
	g := began(t, 40, 96, ourKeys(2), ourRule())
	for i := range 4 {
		g = committed(t, ingested(t, g, messageOf(3, fmt.Sprint(i))))
	}
	for height := range 7 {
		k := ourKeys(height)
		k.Seed, k.Bits = "another seed", 9
		got, e := keeper.Recover(g.D, k, ourRule())
		want := recoverOf(g.D, k, ourRule())
		wantDone(t, fmt.Sprint(height), got, e, want)
		// The first message, and two records for each key that there is; one more message, if a key is missing.
		if many := min(1<<height, 4); got.G.Next != many || len(got.L.L) != min(many+1, 4) {
			t.Errorf("%d: %s", height, toldOf(got))
		}
	}
}

// noRecords are texts that are none of these, wherever they stand behind an event that needn't be kept (0), and one that has to be (1).
func noRecords(a, b api.Slot) map[string]string {
	text := eventText(messageOf(3, "x"))
	h, bt := string(a.H[:]), briefText(a.B)
	with := func(change func(x *api.Slot)) string {
		x := a
		change(&x)
		return deletionText(0, x)
	}
	out := map[string]string{
		"nothing": "", "one byte": "\x01", "a head cut": text[:4], "no part told": text[:5], "cut": text[:len(text)-1], "a byte more": text + "x", "too many parts told": "\x01\x00\x01\x00\x01" + text[5:],
		"no part": laid(1), "two parts": laid(1, messageOf(3, ""), ""), "two messages": laid(1, messageOf(3, ""), messageOf(3, "")), "a message alone": messageOf(3, "x"),
		"too long a message": eventText(longMessage(3, 101)), "far too long": eventText(longMessage(3, 5000)), "too long, no message": eventText(strings.Repeat("x", 101)),
		"a deletion of none": deletionText(2, a), "of the last one": deletionText(math.MaxInt, a), "of -1": deletionText(-1, a), "of the least": deletionText(math.MinInt, a), "of a far one": deletionText(1<<32, a), "of the 4096th": deletionText(4096, a),
		"of one that is kept": deletionText(1, b), "of one that is kept, as if not": deletionText(1, api.Slot{H: b.H, B: api.Brief{Grave: b.B.Grave, From: b.B.From, Many: 1}}),
		"of another one": deletionText(0, b), "another hash": with(func(x *api.Slot) { x.H[31] ^= 1 }), "the first byte of it": with(func(x *api.Slot) { x.H[0] ^= 128 }),
		"another First": with(func(x *api.Slot) { x.B.First-- }), "another Last": with(func(x *api.Slot) { x.B.Last++ }), "another Grave": with(func(x *api.Slot) { x.B.Grave |= 1 }), "another From": with(func(x *api.Slot) { x.B.From++ }),
		"another Many": with(func(x *api.Slot) { x.B.Many++ }), "Keep": with(func(x *api.Slot) { x.B.Keep = true }), "no brief": with(func(x *api.Slot) { x.B = api.Brief{} }),
		"a wrong First": with(func(x *api.Slot) { x.B.First++ }), "a wrong Grave": with(func(x *api.Slot) { x.B.Grave = 256 }), "no Many": with(func(x *api.Slot) { x.B.Many = 0 }),
		"a wrong last byte":       laid(2, numberText(0), h, bt[:32]+"\x02"),
		"a deletion's first part": laid(2, numberText(0)), "its first two": laid(2, numberText(0), h), "a part more": laid(2, numberText(0), h, bt, ""), "none of its parts": laid(2), "another order": laid(2, h, numberText(0), bt),
		"a short place": laid(2, numberText(0)[1:], h, bt), "a long place": laid(2, "\x00"+numberText(0), h, bt), "no place": laid(2, "", h, bt), "a short hash": laid(2, numberText(0), h[:31], bt), "a long hash": laid(2, numberText(0), h+"\x00", bt), "no hash": laid(2, numberText(0), "", bt),
		"a short brief": laid(2, numberText(0), h, bt[:32]), "a long brief": laid(2, numberText(0), h, bt+"\x00"), "an empty brief": laid(2, numberText(0), h, ""), "a byte gone over": laid(2, numberText(0), h+bt[:1], bt[1:]),
		"no key told": laid(3), "two keys": laid(3, numberText(0), numberText(0)), "an empty key": laid(3, ""), "a short key": laid(3, numberText(0)[1:]), "a long key": laid(3, numberText(0)+"\x00"), "a key of 9 bytes": laid(3, "\x00"+numberText(0)),
		"no key": stateText(4), "a far key": stateText(1 << 32), "the last number": stateText(math.MaxInt), "a key of -1": stateText(-1), "the least": stateText(math.MinInt), "a highest bit": stateText(math.MinInt + 1),
	}
	for i, s := range noMessages() {
		out[fmt.Sprint("no message ", i)] = eventText(s)
	}
	for kind := range 256 {
		if kind < 1 || kind > 3 {
			out[fmt.Sprint("kind ", kind, " of an event")] = laid(byte(kind), messageOf(3, ""))
			out[fmt.Sprint("kind ", kind, " of a state")] = laid(byte(kind), numberText(0))
			out[fmt.Sprint("kind ", kind, " of a deletion")] = laid(byte(kind), numberText(0), h, bt)
		}
	}
	out["an event as a deletion"], out["an event as a state"] = laid(2, messageOf(3, "")), laid(3, messageOf(3, ""))
	out["a deletion as an event"], out["a deletion as a state"] = laid(1, numberText(0), h, bt), laid(3, numberText(0), h, bt)
	out["a state as an event"], out["a state as a deletion"] = laid(1, numberText(0)), laid(2, numberText(0))
	return out
}

// P18.4: records that are none of these end the records: what was there ahead is found, and all behind is 0.
func TestRecoverEnds(t *testing.T) {
	r := ourRule()
	a, b := slotOf(5, "a", r), slotOf(1, "b", r)
	before := []rec{{s: eventText(a.S)}, {s: stateText(0)}, {s: eventText(b.S)}}
	behind := []rec{{s: eventText(messageOf(3, "behind"))}, {s: stateText(2)}, {s: deletionText(0, a)}}
	for what, s := range noRecords(a, b) {
		recs := slices.Concat(before, []rec{{s: s}})
		f := finding{3, []api.Slot{a, b}, 1}
		wantFound(t, what, recs, ourKeys(2), r, f)
		wantFound(t, what+", others behind", append(recs, behind...), ourKeys(2), r, f)
	}
}

// P18.4: what stands behind the last record that is taken is 0 then, also where other records stood, or any bytes.
func TestRecoverCleans(t *testing.T) {
	r := rand.New(rand.NewSource(5))
	for _, size := range []int{96, 200} {
		recs := live(eventText(messageOf(5, "a")), stateText(1))
		end := len(sectorsOf(size, recs))
		d := onto(anyDisk(r, 40, size, 0), 0, sectorsOf(size, recs))
		d = onto(d, end+1, rowOf(size, eventText(messageOf(5, "far"))))
		f := finding{2, []api.Slot{slotOf(5, "a", ourRule())}, 2}
		want := f.loggerOf(40, size, recs, ourKeys(2), ourRule())
		for _, d := range []api.Disk{d, waiting(d, end+2, []string{"abc", "def"}), waiting(empty(40, size), 0, d.Kept)} {
			got, e := keeper.Recover(d, ourKeys(2), ourRule())
			wantDone(t, "any bytes behind", got, e, want)
		}
		full := diskWith(end, size, recs)
		got, e := keeper.Recover(full, ourKeys(2), ourRule())
		wantDone(t, "nothing behind", got, e, f.loggerOf(end, size, recs, ourKeys(2), ourRule()))
	}
}

// P18.4: a rule with other Bytes, Events and Grave than the one by which it was written.
func TestRecoverByOtherRule(t *testing.T) {
	r := api.Rule{Grave: 2, Bytes: 60, Events: 6}
	g := began(t, 90, 128, ourKeys(1), r)
	for i := range 6 {
		g = ingested(t, g, longMessage(i, 30+5*i))
	}
	g = committed(t, g)
	for bytes := 1; bytes < 70; bytes++ {
		r.Bytes = bytes
		want := recoverOf(g.D, g.G.K, r)
		got, e := keeper.Recover(g.D, g.G.K, r)
		wantDone(t, fmt.Sprint("Bytes ", bytes), got, e, want)
		if many := min(max((bytes-25)/5, 0), 6); len(got.L.L) != many || got.G.Next == 1 != (many == 6) {
			t.Errorf("Bytes %d: %s", bytes, toldOf(got))
		}
	}
	r.Bytes = 60
	for events := range 9 {
		r.Events = events
		got, e := keeper.Recover(g.D, g.G.K, r)
		wantDone(t, fmt.Sprint("Events ", events), got, e, recoverOf(g.D, g.G.K, r))
		if len(got.L.L) != min(events, 6) || got.G.Next == 1 != (events >= 6) {
			t.Errorf("Events %d: %s", events, toldOf(got))
		}
	}
	r.Events = 6
	for grave := -1; grave <= 7; grave++ {
		r.Grave = grave
		got, e := keeper.Recover(g.D, g.G.K, r)
		wantDone(t, fmt.Sprint("Grave ", grave), got, e, recoverOf(g.D, g.G.K, r))
		for i, x := range got.L.L {
			if x != liveOf(longMessage(i, 30+5*i), i, i <= grave) {
				t.Errorf("Grave %d: %+v", grave, x)
			}
		}
	}
}

// P18.4: a wiped record is one too many, too, if Events are there.
func TestRecoverOfOneTooMany(t *testing.T) {
	r := ourRule()
	a, b := slotOf(5, "a", r), slotOf(6, "b", r)
	r.Events = 1
	wantFound(t, "a live one", live(eventText(a.S), eventText(b.S), stateText(0)), ourKeys(1), r, finding{1, []api.Slot{a}, 0})
	wantFound(t, "a wiped one", []rec{{s: eventText(a.S)}, wiped(b.S), {s: deletionText(1, b)}}, ourKeys(1), r, finding{1, []api.Slot{a}, 0})
	wantFound(t, "the last wiped one", []rec{wiped(b.S), {s: deletionText(0, b)}, {s: stateText(0)}, {s: eventText(a.S)}}, ourKeys(1), r, finding{3, []api.Slot{goneOf(b)}, 1})
	r.Events = 0
	wantFound(t, "none", live(stateText(0), eventText(a.S)), ourKeys(1), r, finding{1, nil, 1})
	wantFound(t, "none wiped", []rec{{s: stateText(0)}, wiped(b.S), {s: deletionText(0, b)}}, ourKeys(1), r, finding{1, nil, 1})
}

// P18.4: by a rule by which a deleted event has to be kept, its deletion is none, if its record isn't wiped; if it is, it stays gone.
func TestRecoverKeptByOtherRule(t *testing.T) {
	was := ourRule()
	a, b := slotOf(5, "a", was), slotOf(7, "b", was)
	for grave := -1; grave <= 7; grave++ {
		r := was
		r.Grave = grave
		x, y := slotOf(5, "a", r), slotOf(7, "b", r)
		recs := live(eventText(a.S), stateText(0), eventText(b.S), deletionText(0, a), stateText(1))
		f := finding{5, []api.Slot{goneOf(x), y}, 2}
		if grave >= 5 {
			f = finding{3, []api.Slot{x, y}, 1}
		}
		wantFound(t, fmt.Sprint("not wiped, ", grave), recs, ourKeys(1), r, f)
		recs[0].wiped = true
		wantFound(t, fmt.Sprint("wiped, ", grave), recs, ourKeys(1), r, finding{5, []api.Slot{goneOf(a), y}, 2})
	}
	// One that had to be kept by the rule ahead has no deletion that may be.
	keep := slotOf(1, "c", was)
	r := was
	r.Grave = -1
	wantFound(t, "kept before", live(eventText(keep.S), deletionText(0, keep), stateText(0)), ourKeys(1), r, finding{1, []api.Slot{slotOf(1, "c", r)}, 0})
}

// P18.4: as many records as a disk can have.
func TestRecoverMany(t *testing.T) {
	r := api.Rule{Grave: 2, Bytes: 100, Events: 4096}
	recs, slots := []rec(nil), []api.Slot(nil)
	for i := range 2000 {
		x := slotOf(i%8, "", r)
		recs, slots = append(recs, rec{s: eventText(x.S)}), append(slots, x)
	}
	for i := 7; i < 2000; i += 80 {
		recs, slots[i] = append(recs, rec{s: deletionText(i, slots[i])}), goneOf(slots[i])
		recs[i].wiped = i%3 == 0
	}
	got, e := keeper.Recover(diskWith(4096, 96, recs), ourKeys(2), r)
	wantDone(t, "many", got, e, finding{len(recs), slots, 0}.loggerOf(4096, 96, recs, ourKeys(2), r))
}

// A tale is a row of records that is made by chance.
type tale struct {
	r     *rand.Rand
	rule  api.Rule
	recs  []rec
	slots []api.Slot
	keys  int
}

// tell puts a record more behind the others: mostly one that goes on there.
func (x *tale) tell() {
	switch x.r.Intn(12) {
	case 0:
		x.recs = append(x.recs, rec{s: stateText(x.keys)})
		x.keys++
	case 1:
		x.recs = append(x.recs, rec{s: stateText(x.r.Intn(9))})
	case 2, 3, 4:
		if len(x.slots) > 0 {
			i := x.r.Intn(len(x.slots))
			x.recs = append(x.recs, rec{s: deletionText(i, x.slots[i])})
		}
	case 5:
		if x.r.Intn(8) == 0 {
			others := noRecords(slotOf(5, "a", x.rule), slotOf(1, "b", x.rule))
			names := make([]string, 0, len(others))
			for name := range others {
				names = append(names, name)
			}
			slices.Sort(names)
			x.recs = append(x.recs, rec{s: others[names[x.r.Intn(len(names))]]})
		}
	default:
		grave := x.r.Intn(8)
		s := slotOf(grave, strings.Repeat("t", x.r.Intn(60)), x.rule)
		x.recs, x.slots = append(x.recs, rec{s: eventText(s.S), wiped: grave > 3 && x.r.Intn(3) == 0}), append(x.slots, s)
	}
}

// P18.4: rows of records of all kinds, by chance, held against what is taken of them one by one.
func TestRecoverAny(t *testing.T) {
	r := rand.New(rand.NewSource(6))
	sizes := map[int]int{}
	for i := range 3000 {
		x := tale{r: r, rule: api.Rule{Grave: r.Intn(5) - 1, Bytes: 100, Events: 20}}
		for range r.Intn(40) {
			x.tell()
		}
		for i, s := range x.slots {
			// Most wiped ones have a deletion, as they should.
			if r.Intn(9) > 0 {
				x.recs = append(x.recs, rec{s: deletionText(i, s)})
			}
		}
		rule, k := x.rule, ourKeys(r.Intn(4))
		if r.Intn(4) == 0 {
			rule = api.Rule{Grave: r.Intn(9) - 1, Bytes: 40 + r.Intn(60), Events: r.Intn(25)}
		}
		size := []int{96, 128, 200}[r.Intn(3)]
		d := diskWith(len(sectorsOf(size, x.recs))+r.Intn(4)+1, size, x.recs)
		want := recoverOf(d, k, rule)
		got, e := keeper.Recover(d, k, rule)
		wantDone(t, fmt.Sprint("any ", i), got, e, want)
		again, e := keeper.Recover(got.D, k, rule)
		wantDone(t, fmt.Sprint("again ", i), again, e, want)
		for _, x := range got.L.L {
			sizes[len(got.L.L)]++
			if x.Gone {
				sizes[-1]++
			}
		}
	}
	if len(sizes) < 10 || sizes[-1] < 300 {
		t.Errorf("too little by chance: %v", sizes)
	}
}

// P18.4: behind a crash that kept none, some, or all of the writes, in part too.
func TestRecoverBehindCrash(t *testing.T) {
	base, _ := keeper.Sync(ingested(t, began(t, 12, 96, ourKeys(1), ourRule()), messageOf(3, "a")))
	// Two sectors each.
	g := ingested(t, base, messageOf(5, "b"), messageOf(6, "c"))
	row := headOf(eventText(messageOf(5, "b")), false) + eventText(messageOf(5, "b"))
	rest := len(row) - 96
	for _, x := range []struct {
		keep []int
		many int
	}{
		{nil, 1}, {[]int{96}, 1}, {[]int{96, 0}, 1}, {[]int{96, rest - 1}, 1}, {[]int{96, rest}, 2}, {[]int{96, 96}, 2}, {[]int{95, 96, 96, 96}, 1}, {[]int{94, 96, 96, 96}, 1}, {[]int{0, 0, 96, 96}, 1}, {[]int{96, 96, 96}, 2},
		{[]int{96, 96, 96, 96}, 3}, {[]int{96, rest, 96, rest}, 3}, {[]int{96, rest, 96, rest - 1}, 2}, {[]int{-5, 999, 999, 999}, 1}, {[]int{999, 999, 999, 999, 999}, 3}, {[]int{96, 0, 96, 96}, 1},
	} {
		d := disk.Crash(g.D, x.keep)
		got, e := keeper.Recover(d, g.G.K, g.R)
		want := recoverOf(d, g.G.K, g.R)
		wantDone(t, fmt.Sprint(x.keep), got, e, want)
		if len(got.L.L) != x.many || !slices.Equal(got.L.L, g.L.L[:len(got.L.L)]) {
			t.Errorf("%v: %s", x.keep, toldOf(got))
		}
	}
}
