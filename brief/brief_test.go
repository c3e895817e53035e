package brief_test

import (
	"math"
	"slices"
	"testing"

	"tabulary/api"
	"tabulary/brief"
)

// P6.1: None, and Of of each Grave and From, at times of each kind.
func TestOf(t *testing.T) {
	if b := brief.None(); b != (api.Brief{}) || !brief.Right(b) {
		t.Errorf("%+v", b)
	}
	for grave := range 8 {
		for from := range 24 {
			for i, at := range edgeTimes() {
				want := api.Brief{First: at, Last: at, Grave: uint32(math.Pow(2, float64(grave))), From: uint32(math.Pow(2, float64(from))), Many: 1, Keep: i%2 == 0}
				if b := brief.Of(event(grave, from, at), i%2 == 0); b != want || !brief.Right(b) {
					t.Errorf("%d, %d, %d: %+v", grave, from, at, b)
				}
			}
		}
	}
	for keep, want := range map[bool]api.Brief{false: {First: 5, Last: 5, Grave: 8, From: 16, Many: 1}, true: {First: 5, Last: 5, Grave: 8, From: 16, Many: 1, Keep: true}} {
		if b := brief.Of(event(3, 4, 5), keep); b != want {
			t.Errorf("%+v", b)
		}
	}
	if b := brief.Of(api.Event{}, false); b != (api.Brief{Grave: 1, From: 1, Many: 1}) {
		t.Errorf("%+v", b)
	}
}

// P6.1: Of of events whose Grave or From may not be.
func TestOfWrong(t *testing.T) {
	for _, e := range wrongEvents() {
		if a, b := brief.Of(e, false), brief.Of(e, true); a != (api.Brief{}) || b != (api.Brief{}) {
			t.Errorf("%d, %d: %+v, %+v", e.Grave, e.From, a, b)
		}
	}
}

// P6.1: Right, of briefs of each kind.
func TestRight(t *testing.T) {
	for _, b := range rightBriefs() {
		if !brief.Right(b) {
			t.Errorf("%+v: not right", b)
		}
	}
	for _, b := range wrongBriefs() {
		if brief.Right(b) {
			t.Errorf("%+v: right", b)
		}
	}
}

// P6.1: Join of each number, on either side.
func TestJoin(t *testing.T) {
	a := api.Brief{First: -7, Last: 2, Grave: 3, From: 1<<23 | 2, Many: 5}
	b := api.Brief{First: -6, Last: 9, Grave: 6, From: 3, Many: 8}
	wantJoin(t, a, b, api.Brief{First: -7, Last: 9, Grave: 7, From: 1<<23 | 3, Many: 13})
	inside := api.Brief{First: -6, Last: 1, Grave: 128, From: 1 << 22, Many: 1}
	wantJoin(t, a, inside, api.Brief{First: -7, Last: 2, Grave: 131, From: 1<<23 | 1<<22 | 2, Many: 6})
	wantJoin(t, a, a, api.Brief{First: -7, Last: 2, Grave: 3, From: 1<<23 | 2, Many: 10})
	apart := api.Brief{First: low, Last: low, Grave: 1, From: 1, Many: 1}
	wantJoin(t, apart, api.Brief{First: high, Last: high, Grave: 128, From: 1 << 23, Many: 1}, api.Brief{First: low, Last: high, Grave: 129, From: 1<<23 | 1, Many: 2})
	x := brief.Join(brief.Of(event(0, 23, -7), false), brief.Of(event(7, 0, 9), true))
	if x != (api.Brief{First: -7, Last: 9, Grave: 129, From: 1<<23 | 1, Many: 2, Keep: true}) {
		t.Errorf("%+v", x)
	}
}

// P6.1: Join, with Keep on one side, on the other, on both, on none.
func TestJoinKeep(t *testing.T) {
	free, kept := plain(), with(func(b *api.Brief) { b.Keep = true })
	two := with(func(b *api.Brief) { b.Many = 4 })
	keptTwo := with(func(b *api.Brief) { b.Many, b.Keep = 4, true })
	wantJoin(t, free, free, two)
	wantJoin(t, free, kept, keptTwo)
	wantJoin(t, kept, free, keptTwo)
	wantJoin(t, kept, kept, keptTwo)
}

// P6.1: Join, where Many goes round at 2^64.
func TestJoinMany(t *testing.T) {
	for _, x := range []struct{ a, b, want uint64 }{
		{1, 1, 2},
		{math.MaxUint64 - 1, 1, math.MaxUint64},
		{math.MaxUint64, 1, 0},
		{math.MaxUint64, 2, 1},
		{1 << 63, 1 << 63, 0},
		{1<<63 + 5, 1<<63 + 4, 9},
		{math.MaxUint64, math.MaxUint64, math.MaxUint64 - 1},
	} {
		a := api.Brief{First: 1, Last: 4, Grave: 1, From: 4, Many: x.a, Keep: true}
		b := api.Brief{First: 2, Last: 8, Grave: 2, From: 8, Many: x.b}
		wantJoin(t, a, b, api.Brief{First: 1, Last: 8, Grave: 3, From: 12, Many: x.want, Keep: true})
	}
}

// P6.1: Join, where one is of none, or both are, or a Many that is 0 has numbers beside it.
func TestJoinNone(t *testing.T) {
	for _, b := range rightBriefs() {
		wantJoin(t, b, brief.None(), b)
	}
	hollow := api.Brief{First: low, Last: high, Grave: allBits, From: allBits, Keep: true}
	for _, b := range append(rightBriefs(), wrongBriefs()...) {
		if b.Many != 0 {
			wantJoin(t, b, hollow, b)
		}
	}
	// Where both Many are 0, the first one is asked first.
	other := api.Brief{First: 1, Last: 2, Grave: 3, From: 4}
	if x, y := brief.Join(hollow, other), brief.Join(other, hollow); x != other || y != hollow {
		t.Errorf("%+v, %+v", x, y)
	}
	if x := brief.All([]api.Brief{other, hollow}); x != hollow {
		t.Errorf("%+v", x)
	}
}

// P6.1: All of nothing, of one, and of many.
func TestAll(t *testing.T) {
	if a, b := brief.All(nil), brief.All([]api.Brief{}); a != (api.Brief{}) || b != (api.Brief{}) {
		t.Errorf("%+v, %+v", a, b)
	}
	for _, b := range rightBriefs() {
		one, two := brief.All([]api.Brief{b}), brief.All([]api.Brief{{}, b, {}})
		if one != b || two != b {
			t.Errorf("%+v: %+v, %+v", b, one, two)
		}
	}
	var l []api.Brief
	var want api.Brief
	for i := range 4096 {
		at := int64(i*i - 1000*i)
		l = append(l, brief.Of(event(i%7+1, i%22+1, at), i == 4000))
		want = api.Brief{First: -250000, Last: max(want.Last, at), Grave: allGraves - 1, From: allFroms - 1 - 1<<23, Many: uint64(i + 1), Keep: i >= 4000}
		if i >= 1000 && brief.All(l) != want {
			t.Fatalf("%d: %+v, not %+v", i, brief.All(l), want)
		}
	}
	kept := slices.Clone(l)
	brief.All(l)
	if !slices.Equal(l, kept) {
		t.Error("the list was written into")
	}
}

// P6.1: All, where many that go round leave none on the way: it joins from the first on.
func TestAllRound(t *testing.T) {
	a := api.Brief{First: 1, Last: 1, Grave: 1, From: 1, Many: math.MaxUint64}
	b := api.Brief{First: 2, Last: 2, Grave: 2, From: 2, Many: 1}
	c := api.Brief{First: 3, Last: 3, Grave: 4, From: 4, Many: 7}
	if x := brief.All([]api.Brief{a, b, c}); x != c {
		t.Errorf("%+v", x)
	}
	if x := brief.All([]api.Brief{b, c, a}); x != (api.Brief{First: 1, Last: 3, Grave: 7, From: 7, Many: 7}) {
		t.Errorf("%+v", x)
	}
}

// P6.2: Text, of right briefs and others, against the library; and byte by byte.
func TestText(t *testing.T) {
	for _, b := range append(rightBriefs(), wrongBriefs()...) {
		if s := brief.Text(b); s != textOf(b) || len(s) != 33 {
			t.Errorf("%+v: %x", b, s)
		}
	}
	for s, b := range map[string]api.Brief{
		"\x01\x02\x03\x04\x05\x06\x07\x08" + "\x11\x12\x13\x14\x15\x16\x17\x18" + "\x21\x22\x23\x24" + "\x31\x32\x33\x34" + "\x41\x42\x43\x44\x45\x46\x47\x48" + "\x01": {First: 0x0102030405060708, Last: 0x1112131415161718, Grave: 0x21222324, From: 0x31323334, Many: 0x4142434445464748, Keep: true},
		"\x80\x00\x00\x00\x00\x00\x00\x00" + "\xff\xff\xff\xff\xff\xff\xff\xff" + "\x00\x00\x00\x01" + "\x00\x80\x00\x00" + "\xff\xff\xff\xff\xff\xff\xff\xff" + "\x00": {First: low, Last: -1, Grave: 1, From: 1 << 23, Many: math.MaxUint64},
		string(make([]byte, 33)): {},
	} {
		if brief.Text(b) != s {
			t.Errorf("%+v: %x", b, brief.Text(b))
		}
	}
}

// P6.2: Parse takes the text of each right brief.
func TestParse(t *testing.T) {
	for _, b := range rightBriefs() {
		if x, e := brief.Parse(textOf(b)); x != b || e != api.OK {
			t.Errorf("%+v: %+v, %d", b, x, e)
		}
	}
}

// P6.2: Parse refuses the texts of briefs that aren't right, and last bytes that are neither 0 nor 1.
func TestParseWrong(t *testing.T) {
	for _, b := range wrongBriefs() {
		wantForm(t, textOf(b))
	}
	for _, b := range rightBriefs() {
		head := textOf(b)[:32]
		for last := 2; last < 256; last++ {
			wantForm(t, head+string([]byte{byte(last)}))
		}
	}
	head := textOf(plain())[:32]
	for last, want := range []api.Brief{plain(), with(func(b *api.Brief) { b.Keep = true })} {
		if b, e := brief.Parse(head + string([]byte{byte(last)})); b != want || e != api.OK {
			t.Errorf("%d: %+v, %d", last, b, e)
		}
	}
}

// P6.2: Parse refuses texts of other lengths.
func TestParseLength(t *testing.T) {
	for _, b := range rightBriefs() {
		s := textOf(b)
		for many := range len(s) {
			wantForm(t, s[:many])
		}
		for _, more := range []string{"\x00", "\x01", "x", s} {
			wantForm(t, s+more)
			wantForm(t, more+s)
		}
		wantForm(t, s[1:])
	}
}

// P6.2: each byte of a text tells something: what Parse takes of any text is told by just that text.
func TestParseBytes(t *testing.T) {
	for _, b := range rightBriefs()[:40] {
		s := []byte(textOf(b))
		for i, was := range s {
			for n := range 256 {
				s[i] = byte(n)
				x, e := brief.Parse(string(s))
				if e == api.OK && textOf(x) != string(s) || e != api.OK && (e != api.ErrForm || x != (api.Brief{})) {
					t.Errorf("%x: %+v, %d", s, x, e)
				}
			}
			s[i] = was
		}
	}
}
