package sysl_test

import (
	"fmt"
	"math/rand"
	"reflect"
	"slices"
	"strconv"
	"strings"
	"testing"

	"tabulary/api"
	"tabulary/sysl"
)

// P5.2: Parse, by what is written in the document, and by hand.
func TestParseByHand(t *testing.T) {
	one := func(id string, l ...api.Param) api.Event { return api.Event{Data: []api.Elem{{Id: id, L: l}}} }
	for _, x := range []struct {
		s    string
		want api.Event
	}{
		{"<34>1 - h a - - - hi", api.Event{Grave: 2, From: 4, Host: "h", App: "a", Text: "hi"}},
		{"<0>1 - - - - - -", api.Event{}},
		{"<191>1 - - - - - -", api.Event{Grave: 7, From: 23}},
		{"<8>1 1970-01-01T00:00:00.1-00:01 -- h=\"] - [i] -", api.Event{From: 1, Timed: true, At: 60100000000, Host: "--", App: "h=\"]", Id: "[i]"}},
		{"<0>1 - - - - - - -", api.Event{Text: "-"}},
		{"<0>1 - - - - - -  ", api.Event{Text: " "}},
		{"<0>1 - - - - - - " + mark, api.Event{}},
		{"<0>1 - - - - - - " + mark + mark + "t", api.Event{Text: mark + "t"}},
		{"<0>1 - - - - - - t" + mark, api.Event{Text: "t" + mark}},
		{"<0>1 - - - - - -  " + mark, api.Event{Text: " " + mark}},
		{"<0>1 - - - - - - \x00\n", api.Event{Text: "\x00\n"}},
		{"<0>1 - - - - - [a]", one("a")},
		{"<0>1 - - - - - [[]", one("[")},
		{"<0>1 - - - - - [\\]", one("\\")},
		{"<0>1 - - - - - [-]", one("-")},
		{`<0>1 - - - - - [a -="x"]`, one("a", api.Param{Name: "-", Value: "x"})},
		{`<0>1 - - - - - [a b=""]`, one("a", api.Param{Name: "b"})},
		{`<0>1 - - - - - [a b="\n\\n\"\]\é\ "]`, one("a", api.Param{Name: "b", Value: `\n\n"]\é\ `})},
		{"<0>1 - - - - - [a b=\"1\" b=\"1\" c=\" [=\"]", one("a", api.Param{Name: "b", Value: "1"}, api.Param{Name: "b", Value: "1"}, api.Param{Name: "c", Value: " [="})},
		{"<0>1 - - - - - [a][A] [b]", api.Event{Data: []api.Elem{{Id: "a"}, {Id: "A"}}, Text: "[b]"}},
		{"<0>1 - - - - - [a] " + mark + "é", api.Event{Data: []api.Elem{{Id: "a"}}, Text: "é"}},
	} {
		wantParse(t, x.s, x.want)
		wantAsLibrary(t, x.s)
	}
}

// P5.2: Parse refuses what isn't of the form.
func TestParseRefuses(t *testing.T) {
	for _, s := range []string{
		"", " ", "<", "<>", "<0", "<0>", "<0>1", "<0>1 ", "0>1 - - - - - -", " <0>1 - - - - - -", mark + "<0>1 - - - - - -", "<<0>1 - - - - - -", "<0>>1 - - - - - -", "(0)1 - - - - - -",
		"<0> - - - - - -", "<0>0 - - - - - -", "<0>2 - - - - - -", "<0>10 - - - - - -", "<0>11 - - - - - -", "<0>01 - - - - - -", "<0> 1 - - - - - -", "<0>1- - - - - -", "<0>1\t- - - - - -",
		"<0>1 - - - - -", "<0>1 - - - - - ", "<0>1 - - - - - - ", "<0>1 - - - - - --", "<0>1 - - - - - -x", "<0>1 - - - - - -[a]", "<0>1 - - - - - x", "<0>1 - - - - - x [a]", "<0>1 - - - - - -" + mark, "<0>1 - - - - - -\n", "<0>1 - - - - - [a]x", "<0>1 - - - - - [a]-", "<0>1 - - - - - [a] ", "<0>1 - - - - - [a]" + mark,
		"<0>1 - - - - - [", "<0>1 - - - - - ]", "<0>1 - - - - - []", "<0>1 - - - - - [a", "<0>1 - - - - - [a][", "<0>1 - - - - - [a][b", "<0>1 - - - - - [a ]", "<0>1 - - - - - [ a]", "<0>1 - - - - - [a b]", "<0>1 - - - - - [a b=]", "<0>1 - - - - - [a b=c]", "<0>1 - - - - - [a b=']']", "<0>1 - - - - - [a=\"b\"]", "<0>1 - - - - - [a\"b\"]", "<0>1 - - - - - [a =\"b\"]",
		"<0>1 - - - - - [a b=\"c]", "<0>1 - - - - - [a b=\"c\"", "<0>1 - - - - - [a b=\"c\" ]", "<0>1 - - - - - [a b=\"c\"d=\"e\"]", "<0>1 - - - - - [a b=\"c\"  d=\"e\"]", "<0>1 - - - - - [a  b=\"c\"]", "<0>1 - - - - - [a b =\"c\"]", "<0>1 - - - - - [a b= \"c\"]", "<0>1 - - - - - [a b==\"c\"]", "<0>1 - - - - - [a b=\"\"\"]", "<0>1 - - - - - [a b=\"]\"]", "<0>1 - - - - - [a b=\"x]y\"]", "<0>1 - - - - - [a\tb=\"c\"]", "<0>1 - - - - - [a, b=\"c\"",
		"<0>1 - - - - - [a b=\"\\\"]", "<0>1 - - - - - [a b=\"\\]", "<0>1 - - - - - [a b=\"\\", "<0>1 - - - - - [a b=\"\\\\\\\"]", "<0>1 - - - - - [a b=\"\\\\\"\"]", "<0>1 - - - - - [a b=\"\\\\]\"]", "<0>1 - - - - - [a b=\"\\n]\"]",
		"<0>1 - - - - - [a][a]", "<0>1 - - - - - [a b=\"c\"][d][a]",
	} {
		wantForm(t, s)
		if wantAsLibrary(t, s) {
			t.Errorf("%q: taken", s)
		}
	}
}

// P5.2: the decimals, all that are and many that aren't.
func TestParseDecimals(t *testing.T) {
	for n := range 2000 {
		s := fmt.Sprintf("<%d>1 - - - - - -", n)
		if n < 192 {
			wantParse(t, s, api.Event{From: n / 8, Grave: n % 8})
		} else {
			wantForm(t, s)
		}
		for _, ahead := range []string{"0", "00", "+", "-", " "} {
			wantForm(t, fmt.Sprintf("<%s%d>1 - - - - - -", ahead, n))
		}
		wantForm(t, fmt.Sprintf("<%d >1 - - - - - -", n))
	}
	for _, s := range []string{"", "-", "+", "0x1", "1_0", "1e1", "1.0", "1,0", "a", "1a", "\x00", "１", "000", "0000", "0191", "1910", "4294967296", "4294967330", "18446744073709551616", "18446744073709551650", "9223372036854775808", strings.Repeat("9", 5000), "34" + strings.Repeat("0", 5000)} {
		wantForm(t, "<"+s+">1 - - - - - -")
	}
}

// P5.2: the moments: any text of a date, if its moment is in the years that there are.
func TestParseMoments(t *testing.T) {
	for s, at := range map[string]int64{
		"1970-01-01T00:00:00Z":             0,
		"1970-01-01T00:00:00.0Z":           0,
		"1970-01-01T00:00:00.000001+00:00": 1000,
		"1970-01-01T00:00:00.5-00:00":      500000000,
		"1969-12-31T23:59:59.999999Z":      -1000,
		"2003-10-11T22:14:15.003Z":         1065910455003000000,
		"2003-10-11T15:14:15.003000-07:00": 1065910455003000000,
		"2003-10-12T22:13:15.00300+23:59":  1065910455003000000,
		"1700-01-01T00:00:00Z":             lowNanos,
		"1700-01-01T00:01:00+00:01":        lowNanos,
		"1700-01-01T23:59:00+23:59":        lowNanos,
		"2250-12-31T23:59:59.999999Z":      highNanos,
		"2250-12-31T00:00:59.999999-23:59": highNanos,
	} {
		wantParse(t, "<0>1 "+s+" - - - - -", api.Event{Timed: true, At: at})
		wantAsLibrary(t, "<0>1 "+s+" - - - - -")
	}
	for _, s := range []string{
		"1700-01-01T00:00:00+00:01", "1700-01-01T00:00:59.999999+00:01", "1700-01-01T00:00:00+23:59", "1699-12-31T23:59:59.999999Z", "1699-12-31T23:59:00-00:01", "2250-12-31T23:59:00-00:01", "2250-12-31T23:59:59.999999-23:59", "2251-01-01T00:00:00Z", "2251-01-01T00:00:00+00:01", "0001-01-01T00:00:00Z", "9999-12-31T23:59:59Z",
		"--", "T", "0", "2003-10-11", "2003-10-11T22:14:15", "2003-10-11T22:14:15z", "2003-10-11t22:14:15Z", "2003-10-11T22:14:15.Z", "2003-10-11T22:14:15.0000001Z", "2003-10-11T22:14:15Zx", "2003-10-11T22:14:15Z-", "2003-10-11T22:14:15ZZ", "x2003-10-11T22:14:15Z", "-2003-10-11T22:14:15Z", "2003-02-29T00:00:00Z", "2003-10-11T24:00:00Z", "2003-10-11T22:14:60Z", "2003-10-11T22:14:15+24:00", "2003-10-11T22:14:15+00:60",
	} {
		wantForm(t, "<0>1 "+s+" - - - - -")
		wantAsLibrary(t, "<0>1 "+s+" - - - - -")
	}
}

// spoilt is a text of four words one of which is s.
func spoilt(at int, s string) string {
	l := []string{"-", "-", "-", "-"}
	l[at] = s
	return "<0>1 - " + strings.Join(l, " ") + " - t"
}

// P5.2: the words, at the edges of what they may be.
func TestParseWords(t *testing.T) {
	for i, w := range words() {
		for _, s := range []string{"!", "~", "--", "-a", "[", "]", "<", ">", "=", "\"", "\\", "0", strings.Repeat("w", w.most-1), strings.Repeat("w", w.most), strings.Repeat("-", w.most)} {
			want := api.Event{Text: "t"}
			*w.at(&want) = s
			wantParse(t, spoilt(i, s), want)
		}
		wantParse(t, spoilt(i, "-"), api.Event{Text: "t"})
		for _, s := range []string{"", " ", "- ", " -", "a ", " a", "\x00", "\t", "\n", "\x1f", "\x7f", "a\x7f", "\x80", "\xff", "é", strings.Repeat("w", w.most+1), strings.Repeat("w", w.most+2), strings.Repeat("w", 70000)} {
			wantForm(t, spoilt(i, s))
		}
		for b := range 256 {
			if s := spoilt(i, "a"+string([]byte{byte(b)})); wantAsLibrary(t, s) != (33 <= b && b <= 126) {
				t.Errorf("%s: %d", w.name, b)
			}
		}
	}
}

// P5.2: names and values, as texts.
func TestParseData(t *testing.T) {
	text := func(id, name, value string) string {
		return "<0>1 - - - - - [" + id + " " + name + "=\"" + value + "\"]"
	}
	for _, s := range rightNames() {
		wantParse(t, text(s, "n", "v"), api.Event{Data: []api.Elem{{Id: s, L: []api.Param{{Name: "n", Value: "v"}}}}})
		wantParse(t, text("i", s, "v"), api.Event{Data: []api.Elem{{Id: "i", L: []api.Param{{Name: s, Value: "v"}}}}})
		wantParse(t, "<0>1 - - - - - ["+s+"]", api.Event{Data: []api.Elem{{Id: s}}})
	}
	for _, s := range wrongNames() {
		// Behind a ] ahead of a blank it would be an event's text.
		if s != "a]" {
			wantForm(t, text(s, "n", "v"))
		}
		wantForm(t, text("i", s, "v"))
		wantForm(t, "<0>1 - - - - - ["+s+"]")
		wantForm(t, "<0>1 - - - - - [i]["+s+"] t")
	}
	for _, s := range values() {
		wantParse(t, text("i", "n", libraryValue(s)), api.Event{Data: []api.Elem{{Id: "i", L: []api.Param{{Name: "n", Value: s}}}}})
		wantAsLibrary(t, text("i", "n", s))
	}
	for _, s := range noUTF8() {
		wantForm(t, text("i", "n", s))
		wantForm(t, text("i", "n", "v\\"+s))
		wantForm(t, text("i", "n", s+"\\]"))
		for _, ahead := range []string{" ", " t", " " + mark, " " + mark + "t", " t" + mark} {
			wantForm(t, "<0>1 - - - - - -"+ahead+s)
			wantForm(t, "<0>1 - - - - - [i]"+ahead+s+"t")
		}
	}
}

// P5.2: a \ in a value, ahead of every byte.
func TestParseBackslash(t *testing.T) {
	for b := range 128 {
		s := string([]byte{byte(b)})
		want := `\` + s
		if strings.Contains(`"\]`, s) {
			want = s
		}
		for _, x := range [][2]string{{"", ""}, {"v", ""}, {"", "v"}, {`\\`, ""}, {"é", "é"}} {
			value := strings.ReplaceAll(x[0], `\\`, `\`) + want + x[1]
			wantParse(t, `<0>1 - - - - - [i n="`+x[0]+`\`+s+x[1]+`"] t`, api.Event{Data: []api.Elem{{Id: "i", L: []api.Param{{Name: "n", Value: value}}}}, Text: "t"})
		}
	}
	// Signs of all kinds, one behind the other.
	signs := []string{`\`, `"`, `]`, `n`, `é`}
	for n := range 5 * 5 * 5 * 5 * 5 {
		s := ""
		for range 5 {
			s += signs[n%5]
			n /= 5
		}
		wantAsLibrary(t, `<0>1 - - - - - [i n="`+s+`"] t`)
	}
}

// P5.2: lists of 64 are taken, longer ones refused.
func TestParseLists(t *testing.T) {
	text := func(data []api.Elem) string { return libraryText(api.Event{Data: data, Text: "t"}) }
	for _, many := range []int{1, 2, 63, 64} {
		wantParse(t, text(elems(many)), api.Event{Data: elems(many), Text: "t"})
		data := []api.Elem{{Id: "a"}, {Id: "b", L: params(many)}, {Id: "c"}}
		wantParse(t, text(data), api.Event{Data: data, Text: "t"})
	}
	for _, many := range []int{65, 66, 67, 128, 5000} {
		wantForm(t, text(elems(many)))
		wantForm(t, text([]api.Elem{{Id: "a"}, {Id: "b", L: params(many)}, {Id: "c"}}))
		wantForm(t, text([]api.Elem{{Id: "b", L: params(many)}}))
	}
	// What is too much is refused as any other, whatever stands behind it.
	wantForm(t, "<0>1 - - - - - "+strings.Repeat("[a]", 65)+"[")
	wantForm(t, "<0>1 - - - - - "+strings.Repeat("[a]", 1000000))
	wantForm(t, "<0>1 - - - - - [a"+strings.Repeat(" b=\"\"", 1000000)+"]")
}

// whole are texts of each form.
func whole() []string {
	return []string{
		"<34>1 - h a - - - hi",
		"<165>1 2003-10-11T22:14:15.003Z my.host app 12 ID47 [ex@32473 iut=\"3\" src=\"App\\]\\\\\"][x] " + mark + "An event",
		"<0>1 1985-04-12T23:20:50+01:30 - - - - [a b=\"\" b=\"\\n\\\"é\"][c]",
		"<191>1 - - - p - - " + mark,
		"<7>1 2250-12-31T23:59:59.999999Z h a p i [a]",
	}
}

// P5.2: Parse of a text that is cut at any place, with a byte too few or too many, and with another in any place.
func TestParseSpoilt(t *testing.T) {
	for _, s := range whole() {
		if !wantAsLibrary(t, s) {
			t.Errorf("%q: not taken", s)
		}
		for at := range len(s) {
			wantAsLibrary(t, s[:at])
			wantAsLibrary(t, s[at:])
			wantAsLibrary(t, s[:at]+s[at+1:])
			for b := range 256 {
				x := string([]byte{byte(b)})
				wantAsLibrary(t, s[:at]+x+s[at+1:])
				wantAsLibrary(t, s[:at]+x+s[at:])
			}
		}
	}
	// Up to its elements no text may be cut, nor have another blank.
	for _, s := range whole()[1:3] {
		head := strings.IndexByte(s, '[')
		for at := range head + 1 {
			wantForm(t, s[:at])
			wantForm(t, s[:at]+" "+s[at:])
			if at < head && s[at] == ' ' {
				wantForm(t, s[:at]+s[at+1:])
			}
		}
	}
}

// P5.2: Parse, held against patterns, whatever was done to a text.
func TestParseOfAnything(t *testing.T) {
	r := rand.New(rand.NewSource(2))
	signs, taken := "0129 -[]\"\\=<>aé\xef\xbb\xbf\xff\x00\x7f", 0
	for range 60000 {
		s := whole()[r.Intn(len(whole()))]
		if r.Intn(2) == 0 {
			s = libraryText(randomEvent(r))
		}
		b := []byte(s)
		for range 1 + r.Intn(3) {
			at, sign := r.Intn(len(b)), signs[r.Intn(len(signs))]
			switch r.Intn(4) {
			case 0:
				b = slices.Delete(b, at, at+1)
			case 1:
				b[at] = sign
			default:
				b = slices.Insert(b, at, sign)
			}
		}
		if wantAsLibrary(t, string(b)) {
			taken++
		}
	}
	if taken < 6000 || taken > 54000 {
		t.Errorf("%d taken", taken)
	}
}

// P5.4: what is printed is parsed as it was.
func TestPrintAndBack(t *testing.T) {
	r := rand.New(rand.NewSource(3))
	events := rightEvents()
	for range 20000 {
		events = append(events, randomEvent(r))
	}
	for _, e := range events {
		s, bad := sysl.Print(e)
		if bad != api.OK {
			t.Fatal(bad)
		}
		back, bad := sysl.Parse(s)
		if bad != api.OK || !sysl.Same(back, e) || !same(back, e) {
			t.Errorf("%.300q: %.300v, %d", s, back, bad)
		}
	}
}

// P5.4: what is parsed is right, and printed anew it is parsed as that.
func TestParseAndBack(t *testing.T) {
	r := rand.New(rand.NewSource(4))
	texts := append(whole(), "<0>1 1970-01-01T00:00:00.1-23:59 - - - - - t", "<0>1 - - - - - [a b=\"\\n\\\\n\\\"\\]\"]", "<0>1 - - - - - - "+mark, "<0>1 - - - - - - t")
	for range 20000 {
		s := libraryText(randomEvent(r))
		texts = append(texts, s, strings.Replace(s, mark, "", 1), strings.ReplaceAll(s, "\\", ""), strings.ReplaceAll(s, "\\", "\\n\\"))
	}
	taken := 0
	for _, s := range texts {
		e, bad := sysl.Parse(s)
		if bad != api.OK {
			continue
		}
		taken++
		anew, bad := sysl.Print(e)
		if bad != api.OK || sysl.Right(e) != api.OK {
			t.Errorf("%q: %d, %d", s, bad, sysl.Right(e))
		}
		again, bad := sysl.Parse(anew)
		if bad != api.OK || !sysl.Same(again, e) || !same(again, e) {
			t.Errorf("%q: %q: %v, not %v", s, anew, again, e)
		}
	}
	if taken < 40000 {
		t.Errorf("only %d taken", taken)
	}
}

// R3: what is handed in is not written into, and no answer is changed by a later call.
func TestNothingIsWrittenInto(t *testing.T) {
	e := with(func(e *api.Event) {
		e.Data = []api.Elem{{Id: "z", L: params(3)}, {Id: "b", L: params(2)}, {Id: "a"}, {Id: "z2"}}
	})
	before := e
	before.Data = slices.Clone(e.Data)
	for i := range e.Data {
		before.Data[i].L = slices.Clone(e.Data[i].L)
	}
	s, _ := sysl.Print(e)
	sysl.Right(e)
	sysl.Get(e, "a", "n")
	sysl.Same(e, before)
	if !reflect.DeepEqual(e, before) {
		t.Errorf("%v", e)
	}
	one, _ := sysl.Parse(s)
	two, _ := sysl.Parse(s)
	for i := range two.Data {
		two.Data[i].L = append(two.Data[i].L, api.Param{Name: "x"})
		two.Data[i].L[0].Value = "x" + strconv.Itoa(i)
		two.Data[i].Id += "x"
	}
	if !same(one, e) {
		t.Errorf("%v", one)
	}
}

// R4: what was asked before is not seen in an answer.
func TestNothingIsKept(t *testing.T) {
	for range 3 {
		wantForm(t, "<0>1 - - - - - [a][a]")
		wantParse(t, "<0>1 - - - - - [a]", api.Event{Data: []api.Elem{{Id: "a"}}})
		wantForm(t, "<0>1 - - - - - [a")
		wantRight(t, api.Event{Host: "-"}, api.ErrForm)
		wantParse(t, "<0>1 - - - - - -", api.Event{})
	}
}
