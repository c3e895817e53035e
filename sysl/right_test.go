package sysl_test

import (
	"math"
	"math/rand"
	"strings"
	"testing"

	"tabulary/api"
	"tabulary/sysl"
)

// P5.1: Plain, of every byte, and of all bounds around a text's length.
func TestPlain(t *testing.T) {
	for b := range 256 {
		x, want := string([]byte{byte(b)}), 33 <= b && b <= 126
		for _, s := range []string{x, x + "a", "a" + x, "a" + x + "a", strings.Repeat("a", 300) + x} {
			if sysl.Plain(s, 400) != want {
				t.Errorf("%q: not %v", s, want)
			}
		}
	}
	for _, n := range []int{1, 2, 31, 32, 33, 255, 65536} {
		s := strings.Repeat("x", n)
		for most, want := range map[int]bool{math.MinInt: false, -1: false, 0: false, n - 1: false, n: true, n + 1: true, math.MaxInt: true} {
			if sysl.Plain(s, most) != want {
				t.Errorf("%d bytes of %d: not %v", n, most, want)
			}
		}
	}
	for _, most := range []int{math.MinInt, -1, 0, 1, 5, math.MaxInt} {
		if sysl.Plain("", most) || sysl.Plain("é", most) || sysl.Plain("a b", most) {
			t.Error(most)
		}
	}
	// A minus alone is a word, though no event may have it.
	if !sysl.Plain("-", 1) || !sysl.Plain("=]\"", 3) || sysl.Plain("=]\"", 2) {
		t.Error("signs")
	}
}

// P5.1: Value, by hand, of every byte, and held against the library's.
func TestValue(t *testing.T) {
	for s, want := range map[string]string{"": "", "a": "a", `"`: `\"`, `\`: `\\`, `]`: `\]`, `a"`: `a\"`, `"\]`: `\"\\\]`, `\\`: `\\\\`, `[a]`: `[a\]`, "a=b c": "a=b c", "\xff": "\xff", "\\n": "\\\\n", "é]": "é\\]"} {
		if got := sysl.Value(s); got != want {
			t.Errorf("%q: %q, not %q", s, got, want)
		}
	}
	for b := range 256 {
		s := string([]byte{byte(b)})
		want := s
		if strings.Contains(`"\]`, s) {
			want = `\` + s
		}
		if got := sysl.Value("x" + s + s); got != "x"+want+want {
			t.Errorf("%q: %q", s, got)
		}
	}
	for _, s := range append(values(), noUTF8()...) {
		if got := sysl.Value(s); got != libraryValue(s) {
			t.Errorf("%q: %q", s, got)
		}
	}
}

// P5.1, P5.2: what is right, and what is printed of it.
func TestRightAndPrint(t *testing.T) {
	for _, e := range rightEvents() {
		wantRight(t, e, api.OK)
		if s, _ := sysl.Print(e); s != libraryText(e) {
			t.Errorf("%.300q, not %.300q", s, libraryText(e))
		}
	}
	r := rand.New(rand.NewSource(1))
	for range 20000 {
		e := randomEvent(r)
		wantRight(t, e, api.OK)
		if s, _ := sysl.Print(e); s != libraryText(e) {
			t.Errorf("%q, not %q", s, libraryText(e))
		}
	}
}

// P5.2: what is printed, by hand.
func TestPrintByHand(t *testing.T) {
	data := []api.Elem{{Id: "a", L: []api.Param{{Name: "b", Value: "c\"\\]d"}, {Name: "b", Value: ""}}}, {Id: "x"}}
	for _, x := range []struct {
		e    api.Event
		want string
	}{
		{api.Event{}, "<0>1 - - - - - -"},
		{api.Event{Grave: 7, From: 23}, "<191>1 - - - - - -"},
		{api.Event{Grave: 2, From: 4, Host: "h", App: "a", Text: "hi"}, "<34>1 - h a - - - " + mark + "hi"},
		{api.Event{Grave: 1, From: 1, Timed: true, Host: "h", App: "a", Proc: "p", Id: "i"}, "<9>1 1970-01-01T00:00:00Z h a p i -"},
		{api.Event{Timed: true, At: lowNanos}, "<0>1 1700-01-01T00:00:00Z - - - - -"},
		{api.Event{Timed: true, At: highNanos}, "<0>1 2250-12-31T23:59:59.999999Z - - - - -"},
		{api.Event{Timed: true, At: -1000}, "<0>1 1969-12-31T23:59:59.999999Z - - - - -"},
		{api.Event{Data: data}, "<0>1 - - - - - [a b=\"c\\\"\\\\\\]d\" b=\"\"][x]"},
		{api.Event{Data: data[1:], Text: mark}, "<0>1 - - - - - [x] " + mark + mark},
		{api.Event{Data: []api.Elem{}, Text: " "}, "<0>1 - - - - - - " + mark + " "},
	} {
		if s, e := sysl.Print(x.e); s != x.want || e != api.OK {
			t.Errorf("%q, %d; not %q", s, e, x.want)
		}
	}
}

// wrongArg are changes that make an event one of ErrArg.
func wrongArg() []func(e *api.Event) {
	var out []func(e *api.Event)
	for _, n := range []int{math.MinInt, -8, -1, 8, 9, 1 << 32, math.MaxInt} {
		out = append(out, func(e *api.Event) { e.Grave = n })
	}
	for _, n := range []int{math.MinInt, -1, 24, 25, 1 << 32, 1 << 61, math.MaxInt} {
		out = append(out, func(e *api.Event) { e.From = n })
	}
	for _, at := range []int64{math.MinInt64, lowNanos - 1000, lowNanos - 1, lowNanos + 1, -1001, -999, -500, -1, 1, 999, 1001, 1999, highNanos - 1, highNanos + 1, highNanos + 999, highNanos + 1000, math.MaxInt64, math.MaxInt64 - 807} {
		out = append(out, func(e *api.Event) { e.Timed, e.At = true, at })
	}
	for _, at := range []int64{math.MinInt64, -1000, -1, 1, 1000, highNanos, math.MaxInt64} {
		out = append(out, func(e *api.Event) { e.Timed, e.At = false, at })
	}
	return out
}

// wrongForm are changes that make an event one of ErrForm, whose lists are not longer.
func wrongForm() []func(e *api.Event) {
	var out []func(e *api.Event)
	for _, w := range words() {
		for _, s := range []string{"-", " ", "a b", " a", "a ", "\x00", "\n", "\x1f", "\x20", "\x7f", "a\x7f", "\x80", "\xff", "é", strings.Repeat("w", w.most+1), strings.Repeat("w", w.most+2), strings.Repeat("w", w.most) + " "} {
			out = append(out, func(e *api.Event) { *w.at(e) = s })
		}
	}
	for _, s := range wrongNames() {
		out = append(out,
			func(e *api.Event) { e.Data = append([]api.Elem{{Id: s}}, e.Data...) },
			func(e *api.Event) { e.Data = append(e.Data[:len(e.Data):len(e.Data)], api.Elem{Id: s}) },
			func(e *api.Event) { e.Data = append([]api.Elem{{Id: "z", L: []api.Param{{Name: s}}}}, e.Data...) },
			func(e *api.Event) {
				e.Data = append(e.Data[:len(e.Data):len(e.Data)], api.Elem{Id: "z", L: append(params(63), api.Param{Name: s})})
			})
	}
	for _, s := range noUTF8() {
		out = append(out,
			func(e *api.Event) { e.Text = s },
			func(e *api.Event) { e.Text = mark + "t" + s },
			func(e *api.Event) {
				e.Data = append([]api.Elem{{Id: "z", L: []api.Param{{Name: "n", Value: s}}}}, e.Data...)
			},
			func(e *api.Event) {
				e.Data = append(e.Data[:len(e.Data):len(e.Data)], api.Elem{Id: "z", L: append(params(63), api.Param{Name: "n", Value: "v" + s})})
			})
	}
	for _, ids := range [][]string{{"x", "x"}, {"x", "y", "x"}, {"y", "x", "x"}, {"x", "X", "y", "z", "X"}} {
		out = append(out, func(e *api.Event) {
			e.Data = append([]api.Elem(nil), e.Data...)
			for _, id := range ids {
				e.Data = append(e.Data, api.Elem{Id: id})
			}
		})
	}
	return out
}

// wrongBig are changes that make an event one of ErrBig.
func wrongBig() []func(e *api.Event) {
	var out []func(e *api.Event)
	for _, many := range []int{65, 66, 128, 1000} {
		out = append(out,
			func(e *api.Event) { e.Data = elems(many) },
			func(e *api.Event) { e.Data = []api.Elem{{Id: "i", L: params(many)}} },
			func(e *api.Event) { e.Data = append(elems(63), api.Elem{Id: "i", L: params(many)}) },
			func(e *api.Event) { e.Data = []api.Elem{{Id: "i", L: params(many)}, {Id: "j", L: params(64)}} })
	}
	return out
}

// P5.1, P5.2: what isn't right, by one fault.
func TestOneFault(t *testing.T) {
	for _, change := range wrongArg() {
		wantRight(t, with(change), api.ErrArg)
	}
	for _, change := range wrongForm() {
		wantRight(t, with(change), api.ErrForm)
	}
	for _, change := range wrongBig() {
		wantRight(t, with(change), api.ErrBig)
	}
	wantRight(t, with(func(e *api.Event) { e.Data = append(elems(100000), api.Elem{Id: "e5"}) }), api.ErrForm)
	wantRight(t, with(func(e *api.Event) { e.Data = elems(100000) }), api.ErrBig)
}

// P5.1: of several faults, the error is that which is named first.
func TestManyFaults(t *testing.T) {
	for _, big := range wrongBig() {
		for _, form := range wrongForm() {
			both := with(func(e *api.Event) { big(e); form(e) })
			if sysl.Right(both) != api.ErrForm {
				t.Errorf("%d, %.300v", sysl.Right(both), both)
			}
		}
		for _, arg := range wrongArg() {
			wantRight(t, with(func(e *api.Event) { big(e); arg(e) }), api.ErrArg)
		}
	}
	for _, form := range wrongForm() {
		for _, arg := range wrongArg() {
			wantRight(t, with(func(e *api.Event) { form(e); arg(e) }), api.ErrArg)
		}
	}
	for _, change := range wrongForm() {
		wantRight(t, with(func(e *api.Event) { e.Data = elems(70); change(e); e.Grave = 8 }), api.ErrArg)
	}
}

// P5.1: Same, of events that are unlike in one field, and of lists that are empty in two ways.
func TestSame(t *testing.T) {
	base := func() api.Event {
		return with(func(e *api.Event) {
			e.Data = []api.Elem{{Id: "x", L: []api.Param{{Name: "n", Value: "1"}, {Name: "m", Value: "2"}}}, {Id: "y"}}
		})
	}
	for i, change := range []func(e *api.Event){
		func(e *api.Event) { e.Grave++ },
		func(e *api.Event) { e.From++ },
		func(e *api.Event) { e.Timed = false },
		func(e *api.Event) { e.At++ },
		func(e *api.Event) { e.Host += "x" },
		func(e *api.Event) { e.App = "" },
		func(e *api.Event) { e.Proc = "P" },
		func(e *api.Event) { e.Id = "j" },
		func(e *api.Event) { e.Host, e.App = e.App, e.Host },
		func(e *api.Event) { e.Text = "" },
		func(e *api.Event) { e.Data = nil },
		func(e *api.Event) { e.Data = e.Data[:1] },
		func(e *api.Event) { e.Data = append(e.Data, api.Elem{}) },
		func(e *api.Event) { e.Data[0], e.Data[1] = e.Data[1], e.Data[0] },
		func(e *api.Event) { e.Data[1].Id = "Y" },
		func(e *api.Event) { e.Data[0].L = nil },
		func(e *api.Event) { e.Data[0].L = e.Data[0].L[:1] },
		func(e *api.Event) { e.Data[1].L = params(1) },
		func(e *api.Event) { e.Data[0].L[0].Name = "N" },
		func(e *api.Event) { e.Data[0].L[1].Value = "" },
		func(e *api.Event) { e.Data[0].L[0], e.Data[0].L[1] = e.Data[0].L[1], e.Data[0].L[0] },
	} {
		e := base()
		change(&e)
		if sysl.Same(e, base()) || sysl.Same(base(), e) || !sysl.Same(e, e) {
			t.Error(i)
		}
	}
	if !sysl.Same(base(), base()) || !sysl.Same(api.Event{}, api.Event{Data: []api.Elem{}}) || !sysl.Same(api.Event{Data: []api.Elem{}}, api.Event{}) {
		t.Error("same")
	}
	if !sysl.Same(api.Event{Data: []api.Elem{{Id: "x"}}}, api.Event{Data: []api.Elem{{Id: "x", L: []api.Param{}}}}) {
		t.Error("lists")
	}
	// What isn't right is held against another, too.
	if wrong := (api.Event{Grave: -1, Text: "\xff"}); !sysl.Same(wrong, wrong) || sysl.Same(wrong, api.Event{Grave: -1, Text: "\xfe"}) {
		t.Error("wrong")
	}
	all := rightEvents()
	for _, a := range all[:len(all)-1] {
		for _, b := range all[:80] {
			if sysl.Same(a, b) != same(a, b) {
				t.Errorf("%.300v, %.300v", a, b)
			}
		}
	}
}

// P5.3: Get, of the first parameter of that Name of the first element of that Id.
func TestGet(t *testing.T) {
	e := with(func(e *api.Event) {
		e.Data = []api.Elem{
			{Id: "a", L: []api.Param{{Name: "n", Value: "1"}, {Name: "m", Value: "2"}, {Name: "n", Value: "3"}, {Name: "", Value: "4"}}},
			{Id: "b"},
			{Id: "c", L: []api.Param{{Name: "n", Value: ""}, {Name: "x", Value: "5"}}},
			{Id: "b", L: []api.Param{{Name: "n", Value: "6"}}},
			{Id: "", L: []api.Param{{Name: "n", Value: "\xff"}, {Name: "n=", Value: "7"}}},
		}
	})
	for _, x := range []struct {
		id, name, want string
		is             bool
	}{
		{"a", "n", "1", true}, {"a", "m", "2", true}, {"a", "", "4", true}, {"c", "n", "", true}, {"c", "x", "5", true}, {"", "n", "\xff", true}, {"", "n=", "7", true},
		{"a", "x", "", false}, {"b", "n", "", false}, {"c", "m", "", false}, {"d", "n", "", false}, {"A", "n", "", false}, {"a", "N", "", false}, {"", "", "", false}, {"n", "a", "", false}, {"a ", "n", "", false},
	} {
		if v, is := sysl.Get(e, x.id, x.name); v != x.want || is != x.is {
			t.Errorf("%q, %q: %q, %v", x.id, x.name, v, is)
		}
	}
	if v, is := sysl.Get(api.Event{}, "", ""); v != "" || is {
		t.Error(v, is)
	}
	long := with(func(e *api.Event) { e.Data = append(elems(70), api.Elem{Id: "z", L: params(70)}) })
	long.Data[70].L[69].Name = "last"
	if v, is := sysl.Get(long, "z", "last"); v != "69" || !is {
		t.Error(v, is)
	}
}
