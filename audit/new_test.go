package audit_test

import (
	"math"
	"strings"
	"testing"
	"time"

	"tabulary/api"
	"tabulary/audit"
)

// P19.1: an auditor with that root, height and bits, and no state.
func TestNew(t *testing.T) {
	for height := range 7 {
		for _, bits := range []int{1, 2, 4, 128, 255, 256} {
			for _, root := range []api.Hash{{}, anyHash(1), {0: 1}, {31: 0xff}} {
				got, e := audit.New(root, height, bits)
				if want := (api.Auditor{Keys: root, Height: height, Bits: bits}); e != api.OK || got != want {
					t.Errorf("height %d, bits %d: %+v, %d", height, bits, got, e)
				}
			}
		}
	}
}

// P19.1: ErrArg of a height or of bits that may not be, of either by itself, and of both.
func TestNewRefuses(t *testing.T) {
	refuse := func(height, bits int) {
		t.Helper()
		if got, e := audit.New(anyHash(1), height, bits); e != api.ErrArg || got != (api.Auditor{}) {
			t.Errorf("height %d, bits %d: %+v, %d", height, bits, got, e)
		}
	}
	heights := append(farNumbers(), -1, 7, 8, 63, 64, 255, 256)
	widths := append(farNumbers(), -1, 0, 257, 258, 512, 65536)
	for _, height := range heights {
		for _, bits := range append([]int{1, 4, 256}, widths...) {
			refuse(height, bits)
		}
	}
	for _, bits := range widths {
		for height := range 7 {
			refuse(height, bits)
		}
	}
}

// fitting are messages, and what is told of their events: without a time and with one, with elements, of all graves and of whom they are from.
func fitting() []mail {
	nanos := func(s string) int64 {
		at, err := time.Parse(time.RFC3339Nano, s)
		if err != nil {
			panic(err)
		}
		return at.UnixNano()
	}
	out := []mail{
		{"<0>1 - - - - - -", api.Brief{Grave: 1, From: 1, Many: 1}},
		{"<191>1 - - - - - -", api.Brief{Grave: 128, From: 1 << 23, Many: 1}},
		{"<34>1 - h a - - - hi", api.Brief{Grave: 4, From: 16, Many: 1}},
		{"<13>1 - h a p i [x n=\"v\"][y] text", api.Brief{Grave: 32, From: 2, Many: 1}},
		{"<13>1 - h a p i [x n=\"a \\] b\" n=\"\xc3\xa9\"]", api.Brief{Grave: 32, From: 2, Many: 1}},
		{"<7>1 - h a p i - \xef\xbb\xbf", api.Brief{Grave: 128, From: 1, Many: 1}},
	}
	for _, at := range []string{"1985-04-12T23:20:50.52Z", "1700-01-01T00:00:00Z", "2250-12-31T23:59:59.999999Z", "1969-12-31T23:59:59.999999Z", "2003-08-24T05:14:15.000003-07:00", "1970-01-01T00:00:00Z"} {
		out = append(out, mail{"<165>1 " + at + " h a - - - x", api.Brief{First: nanos(at), Last: nanos(at), Grave: 32, From: 1 << 20, Many: 1}})
	}
	for i := range 192 {
		out = append(out, mailOf(i%8, i/8, i%60, "x", false))
	}
	return out
}

// P19.1: a message fits what is told of its event, whether that is kept or not.
func TestFits(t *testing.T) {
	for _, m := range fitting() {
		for _, keep := range []bool{false, true} {
			m.b.Keep = keep
			if !audit.Fits(m.s, m.b) {
				t.Errorf("%q, %+v", m.s, m.b)
			}
		}
	}
}

// P19.1: it fits no brief that is another one in any of its numbers.
func TestFitsNoOther(t *testing.T) {
	for _, m := range fitting() {
		for _, keep := range []bool{false, true} {
			m.b.Keep = keep
			for _, b := range append(changesOf(m.b), api.Brief{}, api.Brief{Keep: true}, api.Brief{First: m.b.First - 1, Last: m.b.Last + 1, Grave: 255, From: 1<<24 - 1, Many: 1, Keep: keep}) {
				if audit.Fits(m.s, b) {
					t.Errorf("%q, %+v", m.s, b)
				}
			}
		}
	}
	for _, two := range [][2]mail{{mailOf(3, 4, 5, "x", false), mailOf(3, 4, 6, "x", false)}, {mailOf(3, 4, 5, "x", false), mailOf(4, 4, 5, "x", false)}, {mailOf(3, 4, 5, "x", false), mailOf(3, 5, 5, "x", false)}} {
		if audit.Fits(two[0].s, two[1].b) || audit.Fits(two[1].s, two[0].b) {
			t.Errorf("%q and %q", two[0].s, two[1].s)
		}
	}
}

// P19.1: a text that is no message fits nothing.
func TestFitsNoMessage(t *testing.T) {
	one := api.Brief{Grave: 2, From: 2, Many: 1}
	for _, s := range append(noMessages(), "<9>1 - h - - - -\x00", "<9>1 1699-12-31T23:59:59Z h - - - -", strings.Repeat("<9>1 - h - - - - ", 4000)+"\xff") {
		for _, b := range []api.Brief{{}, {Keep: true}, one, {Grave: 2, From: 2, Many: 1, Keep: true}, {Grave: 1, From: 1, Many: 1}, {First: math.MinInt64, Last: math.MaxInt64, Grave: 255, From: 1<<24 - 1, Many: 1}} {
			if audit.Fits(s, b) {
				t.Errorf("%.40q, %+v", s, b)
			}
		}
	}
	if !audit.Fits("<9>1 - h - - - -", one) {
		t.Error("the brief itself")
	}
}
