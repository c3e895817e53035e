package sysl_test

import (
	"fmt"
	"math/rand"
	"reflect"
	"regexp"
	"strconv"
	"strings"
	"testing"
	"time"
	"unicode/utf8"

	"tabulary/api"
	"tabulary/sysl"
)

const (
	lowNanos  = -8520336000 * 1000000000     // the first microsecond of 1700
	highNanos = 8867491200*1000000000 - 1000 // the last microsecond of 2250
	mark      = "\xef\xbb\xbf"
)

// plain is a right event without lists.
func plain() api.Event {
	return api.Event{Grave: 2, From: 4, Timed: true, At: 1000, Host: "h", App: "a", Proc: "p", Id: "i", Text: "t"}
}

// with is a plain event that something was done to.
func with(change func(e *api.Event)) api.Event {
	e := plain()
	change(&e)
	return e
}

// withParam is a plain event of one element of one parameter.
func withParam(id, name, value string) api.Event {
	return with(func(e *api.Event) { e.Data = []api.Elem{{Id: id, L: []api.Param{{Name: name, Value: value}}}} })
}

// elems are so many elements of unlike Ids.
func elems(many int) []api.Elem {
	out := make([]api.Elem, many)
	for i := range out {
		out[i].Id = "e" + strconv.Itoa(i)
	}
	return out
}

// params are so many parameters.
func params(many int) []api.Param {
	out := make([]api.Param, many)
	for i := range out {
		out[i] = api.Param{Name: "n" + strconv.Itoa(i%3), Value: strconv.Itoa(i)}
	}
	return out
}

// word names a field of an event that is a word, with what it has at most.
type word struct {
	name string
	at   func(e *api.Event) *string
	most int
}

// words are those of an event.
func words() []word {
	return []word{
		{"Host", func(e *api.Event) *string { return &e.Host }, 255},
		{"App", func(e *api.Event) *string { return &e.App }, 48},
		{"Proc", func(e *api.Event) *string { return &e.Proc }, 128},
		{"Id", func(e *api.Event) *string { return &e.Id }, 32},
	}
}

// rightNames are names of many kinds.
func rightNames() []string {
	return []string{"a", "-", "--", "!", "~", "[", "\\", "<", ">", "'", "[x", "exampleSDID@32473", strings.Repeat("n", 31), strings.Repeat("n", 32), "\\n", "!~", "#<>\\^~"}
}

// wrongNames are no names.
func wrongNames() []string {
	return []string{"", "=", "]", "\"", "a=", "=a", "a]", "]a", "a\"b", " ", "a b", "a ", " a", "\x00", "\t", "\n", "\x1f", "\x20", "\x7f", "\x80", "\xff", "é", "a\x7f", strings.Repeat("n", 33), strings.Repeat("n", 34), strings.Repeat("n", 32) + "="}
}

// noUTF8 are bytes that are no UTF-8.
func noUTF8() []string {
	return []string{"\xff", "\x80", "a\xc3", "\xc3a", "\xe2\x82", "\xed\xa0\x80", "\xf4\x90\x80\x80", "\xc0\x80", "\xef\xbb", "\xef", "a\xbf", "é\xfe", "\xbb\xbf", "\xf0\x9f\x98"}
}

// values are values of many kinds.
func values() []string {
	out := []string{"", "a", " ", "é", "\x00", "\n", "\x7f", "=", "[", "\xed\x9f\xbf", "\xf4\x8f\xbf\xbf", "\ufeff", "\ufffd", "a=\"b\"", "\\n", "\\\\n", "\"] [x y=\"", strings.Repeat("\\", 7), strings.Repeat("v", 5000)}
	signs := []string{"\"", "\\", "]"}
	for _, a := range signs {
		out = append(out, a, "v"+a, a+"v", "v"+a+"v", "é"+a+"é")
		for _, b := range signs {
			out = append(out, a+b, "v"+a+b, a+"v"+b)
			for _, c := range signs {
				out = append(out, a+b+c)
			}
		}
	}
	return out
}

// rightEvents are right events of each kind, with the edges.
func rightEvents() []api.Event {
	out := []api.Event{{}, plain()}
	add := func(change func(e *api.Event)) { out = append(out, with(change)) }
	for from := range 24 {
		for grave := range 8 {
			add(func(e *api.Event) { e.From, e.Grave = from, grave })
		}
	}
	add(func(e *api.Event) { e.Timed, e.At = false, 0 })
	for _, at := range []int64{lowNanos, lowNanos + 1000, -1000000, -1000, 0, 1000, 999999000, 1000000000, 1065910455003000000, highNanos - 1000, highNanos} {
		add(func(e *api.Event) { e.At = at })
	}
	for _, w := range words() {
		for _, s := range []string{"", "x", "!", "~", "--", "-x", "=", "]", "[", "\"", "\\", strings.Repeat("w", w.most-1), strings.Repeat("~", w.most), strings.Repeat("-", w.most)} {
			add(func(e *api.Event) { *w.at(e) = s })
		}
	}
	for _, s := range rightNames() {
		out = append(out, withParam(s, "n", "v"), withParam("i", s, "v"), withParam(s, s, s))
	}
	for _, s := range values() {
		out = append(out, withParam("i", "n", s))
		add(func(e *api.Event) { e.Text = s })
	}
	for _, s := range []string{"", "-", " ", "  ", "[a]", mark, mark + mark, mark + "t", "t" + mark, " " + mark, "\x00", "\n", strings.Repeat("t", 70000)} {
		add(func(e *api.Event) { e.Text = s })
		add(func(e *api.Event) { e.Text, e.Data = s, elems(1) })
	}
	add(func(e *api.Event) { e.Data = []api.Elem{} })
	add(func(e *api.Event) {
		e.Data = []api.Elem{{Id: "x", L: []api.Param{}}, {Id: "X"}, {Id: "xx", L: params(2)}}
	})
	add(func(e *api.Event) {
		e.Data = []api.Elem{{Id: "x", L: []api.Param{{Name: "n", Value: "1"}, {Name: "n", Value: "2"}, {Name: "n", Value: "1"}}}, {Id: "n", L: params(1)}, {Id: "y", L: params(1)}}
	})
	for _, many := range []int{1, 2, 63, 64} {
		add(func(e *api.Event) { e.Data = elems(many) })
		add(func(e *api.Event) { e.Data = []api.Elem{{Id: "a"}, {Id: "b", L: params(many)}} })
	}
	add(func(e *api.Event) {
		e.Data = elems(64)
		for i := range e.Data {
			e.Data[i].L = params(64)
		}
	})
	return out
}

// randomText are so many signs at most, of some that are told apart and others.
func randomText(r *rand.Rand, signs string, most int) string {
	var b strings.Builder
	row := []rune(signs)
	for range r.Intn(most + 1) {
		b.WriteRune(row[r.Intn(len(row))])
	}
	return b.String()
}

// randomEvent is a right one.
func randomEvent(r *rand.Rand) api.Event {
	e := api.Event{Grave: r.Intn(8), From: r.Intn(24), Text: randomText(r, "t-[]\\\" =é\x00\ufeff", 6)}
	if r.Intn(3) > 0 {
		e.Timed, e.At = true, lowNanos+1000*r.Int63n((highNanos/1000-lowNanos/1000)+1)
	}
	for _, w := range words() {
		if s := randomText(r, "w-[]\"=\\!~", min(w.most, 1+r.Intn(w.most))); s != "-" {
			*w.at(&e) = s
		}
	}
	for i := range r.Intn(4) {
		x := api.Elem{Id: strconv.Itoa(i) + randomText(r, "i-[\\!~", 31)}
		for range r.Intn(4) {
			x.L = append(x.L, api.Param{Name: "n" + randomText(r, "n-[\\!~", 31), Value: randomText(r, "v\\\"]=[ é\x00\n", 8)})
		}
		e.Data = append(e.Data, x)
	}
	return e
}

// libraryText is a right event's text, printed by the library.
func libraryText(e api.Event) string {
	date := "-"
	if e.Timed {
		x := time.Unix(0, e.At).UTC()
		date = x.Format("2006-01-02T15:04:05")
		if x.Nanosecond() != 0 {
			date += fmt.Sprintf(".%06d", x.Nanosecond()/1000)
		}
		date += "Z"
	}
	s := fmt.Sprintf("<%d>1 %s", 8*e.From+e.Grave, date)
	for _, w := range words() {
		if *w.at(&e) == "" {
			s += " -"
		} else {
			s += " " + *w.at(&e)
		}
	}
	s += " "
	for _, x := range e.Data {
		s += "[" + x.Id
		for _, p := range x.L {
			s += fmt.Sprintf(" %s=\"%s\"", p.Name, libraryValue(p.Value))
		}
		s += "]"
	}
	if len(e.Data) == 0 {
		s += "-"
	}
	if e.Text != "" {
		s += " " + mark + e.Text
	}
	return s
}

// libraryValue is a value's text, by a pattern.
func libraryValue(s string) string {
	return strings.NewReplacer(`"`, `\"`, `\`, `\\`, `]`, `\]`).Replace(s)
}

const (
	nameForm  = `[!#-<>-\\^-~]{1,32}`
	paramForm = ` (` + nameForm + `)="((?:[^"\\\]]|\\.)*)"`
	elemForm  = `\[(` + nameForm + `)((?: ` + nameForm + `="(?:[^"\\\]]|\\.)*")*)\]`
	wordForm  = ` ([!-~]{1,255}) ([!-~]{1,48}) ([!-~]{1,128}) ([!-~]{1,32}) `
)

var (
	form  = regexp.MustCompile(`(?s)^<(0|[1-9][0-9]{0,2})>1 (-|[!-~]+)` + wordForm + `(-|(?:` + elemForm + `)+)( .*)?$`)
	elem  = regexp.MustCompile(`(?s)` + elemForm)
	param = regexp.MustCompile(`(?s)` + paramForm)
	date  = regexp.MustCompile(`^[0-9]{4}-[0-9]{2}-[0-9]{2}T[0-9]{2}:[0-9]{2}:[0-9]{2}(\.[0-9]{1,6})?(Z|[+-]([01][0-9]|2[0-3]):[0-5][0-9])$`)
)

// libraryParse is what Parse should answer, by patterns and the library's calendar.
func libraryParse(s string) (api.Event, bool) {
	m := form.FindStringSubmatch(s)
	if m == nil {
		return api.Event{}, false
	}
	n, _ := strconv.Atoi(m[1])
	e := api.Event{Grave: n % 8, From: n / 8}
	fits := n < 192
	if m[2] != "-" {
		var right bool
		e.Timed = true
		e.At, right = libraryMoment(m[2])
		fits = fits && right
	}
	for i, w := range words() {
		if m[3+i] != "-" {
			*w.at(&e) = m[3+i]
		}
	}
	var right bool
	e.Data, right = libraryData(m[7])
	// What stands behind the elements is a blank and a text.
	if tail := m[10]; tail != "" {
		e.Text = strings.TrimPrefix(tail[1:], mark)
		fits = fits && tail != " " && utf8.ValidString(tail)
	}
	return e, fits && right
}

// libraryMoment is a date's moment, if it is in the years that there are.
func libraryMoment(s string) (int64, bool) {
	x, err := time.Parse(time.RFC3339Nano, s)
	if err != nil || !date.MatchString(s) {
		return 0, false
	}
	year, own := x.UTC().Year(), x.Year()
	return x.UnixNano(), 1700 <= year && year <= 2250 && 1700 <= own && own <= 2250
}

// libraryData are the elements of a text, and whether they may be.
func libraryData(s string) ([]api.Elem, bool) {
	var out []api.Elem
	fits, ids := true, map[string]int{}
	for _, m := range elem.FindAllStringSubmatch(s, -1) {
		x := api.Elem{Id: m[1]}
		ids[x.Id]++
		for _, p := range param.FindAllStringSubmatch(m[2], -1) {
			value := strings.NewReplacer(`\"`, `"`, `\\`, `\`, `\]`, `]`).Replace(p[2])
			x.L = append(x.L, api.Param{Name: p[1], Value: value})
			fits = fits && utf8.ValidString(value)
		}
		fits = fits && ids[x.Id] == 1 && len(x.L) <= 64
		out = append(out, x)
	}
	return out, fits && len(out) <= 64
}

// normal is an event whose empty lists are all nil.
func normal(e api.Event) api.Event {
	var data []api.Elem
	for _, x := range e.Data {
		data = append(data, api.Elem{Id: x.Id, L: append([]api.Param(nil), x.L...)})
	}
	e.Data = data
	return e
}

// same are two events, held against each other by the library.
func same(a, b api.Event) bool { return reflect.DeepEqual(normal(a), normal(b)) }

// wantParse fails the test, unless Parse answers just that.
func wantParse(t *testing.T, s string, want api.Event) {
	t.Helper()
	if e, bad := sysl.Parse(s); !same(e, want) || bad != api.OK {
		t.Errorf("Parse(%.300q): %+v, %d; not %+v", s, e, bad, want)
	}
}

// wantForm fails the test, unless Parse refuses s.
func wantForm(t *testing.T, s string) {
	t.Helper()
	if e, bad := sysl.Parse(s); !reflect.DeepEqual(e, api.Event{}) || bad != api.ErrForm {
		t.Errorf("Parse(%.300q): %+v, %d", s, e, bad)
	}
}

// wantAsLibrary fails the test, unless Parse answers as libraryParse does; it tells whether s is taken.
func wantAsLibrary(t *testing.T, s string) bool {
	t.Helper()
	e, is := libraryParse(s)
	if is {
		wantParse(t, s, e)
	} else {
		wantForm(t, s)
	}
	return is
}

// wantRight fails the test, unless Right answers just that, and Print refuses what it refuses.
func wantRight(t *testing.T, e api.Event, want api.Errno) {
	t.Helper()
	if got := sysl.Right(e); got != want {
		t.Errorf("Right(%.300q): %d, not %d", fmt.Sprintf("%+v", e), got, want)
	}
	text, got := sysl.Print(e)
	if got != want || want != api.OK && text != "" {
		t.Errorf("Print(%.300q): %.300q, %d, not %d", fmt.Sprintf("%+v", e), text, got, want)
	}
}
