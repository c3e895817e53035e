package cal_test

import (
	"fmt"
	"math"
	"math/rand"
	"regexp"
	"slices"
	"strconv"
	"strings"
	"testing"
	"time"

	"tabulary/api"
	"tabulary/cal"
)

const (
	lowNanos  = -8520336000 * 1000000000  // the first moment of 1700
	highNanos = 8867491200*1000000000 - 1 // the last nanosecond of 2250
	dayNanos  = 24 * 60 * 60 * 1000000000
)

// first and last are the first moment of 1700 and the last microsecond of 2250.
func first() api.Date { return api.Date{Year: 1700, Month: 1, Day: 1} }
func last() api.Date  { return date(2250, 12, 31, 23, 59, 59, 999999000, 0) }

// date is the date of all its fields.
func date(year, month, day, hour, minute, second, nano, zone int) api.Date {
	return api.Date{Year: year, Month: month, Day: day, Hour: hour, Minute: minute, Second: second, Nano: nano, Zone: zone}
}

// libraryTime is a right date's moment, as the library has it.
func libraryTime(d api.Date) time.Time {
	return time.Date(d.Year, time.Month(d.Month), d.Day, d.Hour, d.Minute, d.Second, d.Nano, time.FixedZone("", 60*d.Zone))
}

// libraryDate is a moment's date, as the library has it.
func libraryDate(n int64) api.Date {
	x := time.Unix(0, n).UTC()
	return date(x.Year(), int(x.Month()), x.Day(), x.Hour(), x.Minute(), x.Second(), x.Nanosecond()/1000*1000, 0)
}

// libraryText is a right date's text, printed by the library.
func libraryText(d api.Date) string {
	s := fmt.Sprintf("%04d-%02d-%02dT%02d:%02d:%02d", d.Year, d.Month, d.Day, d.Hour, d.Minute, d.Second)
	if d.Nano != 0 {
		s += fmt.Sprintf(".%06d", d.Nano/1000)
	}
	zone, sign := d.Zone, '+'
	if zone < 0 {
		zone, sign = -zone, '-'
	}
	if zone == 0 {
		return s + "Z"
	}
	return s + fmt.Sprintf("%c%02d:%02d", sign, zone/60, zone%60)
}

// lengthOf is how many days a month has: the day ahead of the next month's first.
func lengthOf(year, month int) int {
	return time.Date(year, time.Month(month+1), 0, 0, 0, 0, 0, time.UTC).Day()
}

// edgeYears are years of each kind, with both ends.
func edgeYears() []int {
	return []int{1700, 1701, 1704, 1799, 1800, 1801, 1899, 1900, 1904, 1969, 1970, 1971, 1972, 1999, 2000, 2001, 2023, 2024, 2100, 2200, 2248, 2249, 2250}
}

// edgeDays are the first and the last day of each month of edgeYears.
func edgeDays() []api.Date {
	var out []api.Date
	for _, year := range edgeYears() {
		for month := 1; month <= 12; month++ {
			out = append(out, api.Date{Year: year, Month: month, Day: 1}, api.Date{Year: year, Month: month, Day: lengthOf(year, month)})
		}
	}
	return out
}

// edgeDates are edgeDays at both ends of the day and in between, in Zones of each kind.
func edgeDates() []api.Date {
	var out []api.Date
	for _, d := range edgeDays() {
		for _, nano := range []int{0, 1000, 10000, 500000000, 999000000, 999999000} {
			for _, zone := range []int{-1439, -1438, -60, -59, -1, 0, 1, 59, 60, 61, 1438, 1439} {
				for _, x := range [][3]int{{0, 0, 0}, {0, 0, 1}, {9, 5, 7}, {12, 30, 59}, {23, 59, 59}} {
					out = append(out, date(d.Year, d.Month, d.Day, x[0], x[1], x[2], nano, zone))
				}
			}
		}
	}
	return out
}

// randomDates are right dates of all kinds.
func randomDates(many int) []api.Date {
	r := rand.New(rand.NewSource(4))
	out := make([]api.Date, many)
	for i := range out {
		year, month := 1700+r.Intn(551), 1+r.Intn(12)
		out[i] = date(year, month, 1+r.Intn(lengthOf(year, month)), r.Intn(24), r.Intn(60), r.Intn(60), 1000*r.Intn(1000000), r.Intn(2879)-1439)
	}
	return out
}

// farOut are numbers that no field of a date may be.
func farOut() []int {
	return []int{math.MinInt, math.MinInt + 1, -1 << 32, -1 << 31, -10000, 1 << 30, 1 << 31, 1<<32 + 1, 1<<32 + 2000, math.MaxInt - 1, math.MaxInt}
}

// fields names each field of a date, with what it may be in a month of 28 days.
func fields() []struct {
	name        string
	at          func(d *api.Date) *int
	least, most int
} {
	return []struct {
		name        string
		at          func(d *api.Date) *int
		least, most int
	}{
		{"Year", func(d *api.Date) *int { return &d.Year }, 1700, 2250},
		{"Month", func(d *api.Date) *int { return &d.Month }, 1, 12},
		{"Day", func(d *api.Date) *int { return &d.Day }, 1, 28},
		{"Hour", func(d *api.Date) *int { return &d.Hour }, 0, 23},
		{"Minute", func(d *api.Date) *int { return &d.Minute }, 0, 59},
		{"Second", func(d *api.Date) *int { return &d.Second }, 0, 59},
		{"Nano", func(d *api.Date) *int { return &d.Nano }, 0, 999999000},
		{"Zone", func(d *api.Date) *int { return &d.Zone }, -1439, 1439},
	}
}

// wrongDates are dates one field of which is one below or one above what it may be, or far out.
func wrongDates() []api.Date {
	var out []api.Date
	for _, f := range fields() {
		for _, n := range append(farOut(), f.least-1, f.most+1) {
			d := date(2023, 2, 28, 12, 30, 30, 5000, 0)
			*f.at(&d) = n
			out = append(out, d)
		}
	}
	for _, nano := range []int{-1000, 1, 999, 1001, 500, 123456789, 999999001, 999999999, 1000000000, 1000001000} {
		out = append(out, date(2024, 2, 29, 0, 0, 0, nano, 0))
	}
	return append(out, noDays()...)
}

// noDays are days that are not there.
func noDays() []api.Date {
	var out []api.Date
	for _, year := range edgeYears() {
		for month := 1; month <= 12; month++ {
			out = append(out, api.Date{Year: year, Month: month, Day: 0}, api.Date{Year: year, Month: month, Day: lengthOf(year, month) + 1}, api.Date{Year: year, Month: month, Day: 32})
		}
		out = append(out, api.Date{Year: year, Month: 0, Day: 1}, api.Date{Year: year, Month: 13, Day: 1}, api.Date{Year: year, Month: -1, Day: 0}, api.Date{Year: year})
	}
	return append(out, api.Date{}, api.Date{Year: 1699, Month: 12, Day: 31}, api.Date{Year: 2251, Month: 1, Day: 1}, api.Date{Year: 1600, Month: 2, Day: 29}, api.Date{Year: 2400, Month: 2, Day: 29})
}

// wantDate fails the test, unless Date answers just that.
func wantDate(t *testing.T, n int64, want api.Date) {
	t.Helper()
	if d := cal.Date(n); d != want {
		t.Errorf("Date(%d): %v, not %v", n, d, want)
	}
}

// wantParse fails the test, unless Parse takes s so.
func wantParse(t *testing.T, s string, want api.Date, rest string) {
	t.Helper()
	if d, left, e := cal.Parse(s); d != want || left != rest || e != api.OK {
		t.Errorf("Parse(%q): %v, %q, %d; not %v, %q", s, d, left, e, want, rest)
	}
}

// wantForm fails the test, unless Parse refuses s.
func wantForm(t *testing.T, s string) {
	t.Helper()
	if d, left, e := cal.Parse(s); d != (api.Date{}) || left != "" || e != api.ErrForm {
		t.Errorf("Parse(%q): %v, %q, %d", s, d, left, e)
	}
}

// P4.1: Leap, of years far and wide.
func TestLeap(t *testing.T) {
	for year := -1300; year <= 4000; year++ {
		if want := lengthOf(year, 2) == 29; cal.Leap(year) != want {
			t.Errorf("%d: not %v", year, want)
		}
	}
	for year, want := range map[int]bool{1700: false, 1704: true, 1800: false, 1900: false, 1996: true, 1999: false, 2000: true, 2100: false, 2248: true, 2250: false, 0: true, -4: true, -100: false, -400: true, -1: false, math.MaxInt: false, math.MaxInt - 3: true, math.MinInt: true, math.MinInt + 1: false, 4e18: true, 4e18 + 100: false, -4e18: true} {
		if cal.Leap(year) != want {
			t.Errorf("%d: not %v", year, want)
		}
	}
}

// P4.1: Length, of all months of years far and wide, and of numbers that are no months.
func TestLength(t *testing.T) {
	for year := -1300; year <= 4000; year++ {
		for month := 1; month <= 12; month++ {
			if n := cal.Length(year, month); n != lengthOf(year, month) {
				t.Errorf("%d, %d: %d", year, month, n)
			}
		}
	}
	plain := []int{31, 28, 31, 30, 31, 30, 31, 31, 30, 31, 30, 31}
	for i, want := range plain {
		for _, year := range []int{math.MinInt + 1, -1, 1, 1900, 2023, math.MaxInt} {
			if n := cal.Length(year, i+1); n != want {
				t.Errorf("%d, %d: %d", year, i+1, n)
			}
		}
	}
	if n, k := cal.Length(math.MinInt, 2), cal.Length(math.MaxInt-3, 2); n != 29 || k != 29 {
		t.Error(n, k)
	}
	for _, month := range append(farOut(), -2, -1, 0, 13, 14, 1<<32+2) {
		for _, year := range []int{math.MinInt, 0, 1, 2000, 2023, math.MaxInt} {
			if n := cal.Length(year, month); n != 0 {
				t.Errorf("%d, %d: %d", year, month, n)
			}
		}
	}
}

// P4.1: Right, of dates of all kinds, and of each field at the ends of what it may be.
func TestRight(t *testing.T) {
	for _, d := range slices.Concat(edgeDates(), randomDates(20000), []api.Date{first(), last()}) {
		if !cal.Right(d) {
			t.Errorf("%v: not right", d)
		}
	}
	for _, f := range fields() {
		for _, n := range []int{f.least, f.most} {
			d := date(2023, 2, 28, 12, 30, 30, 5000, 0)
			if *f.at(&d) = n; !cal.Right(d) {
				t.Errorf("%s %d: not right", f.name, n)
			}
		}
	}
	for _, d := range wrongDates() {
		if cal.Right(d) {
			t.Errorf("%v: right", d)
		}
	}
}

// P4.1: Right asks for each field, whatever the others are.
func TestRightOfTwoWrong(t *testing.T) {
	for i, one := range fields() {
		for _, two := range fields()[i+1:] {
			for _, x := range [][2]int{{one.least - 1, two.least - 1}, {one.least - 1, two.most + 1}, {one.most + 1, two.least - 1}, {one.most + 1, two.most + 1}} {
				d := date(2023, 2, 28, 12, 30, 30, 5000, 0)
				*one.at(&d), *two.at(&d) = x[0], x[1]
				if cal.Right(d) {
					t.Errorf("%s %d, %s %d: right", one.name, x[0], two.name, x[1])
				}
			}
		}
	}
}

// P4.1: Days, of every day that may be, one behind the other.
func TestDays(t *testing.T) {
	want := lowNanos / dayNanos
	for year := 1700; year <= 2250; year++ {
		for month := 1; month <= 12; month++ {
			for day := 1; day <= lengthOf(year, month); day++ {
				if n, e := cal.Days(year, month, day); n != want || e != api.OK {
					t.Fatalf("%d, %d, %d: %d, %d; not %d", year, month, day, n, e, want)
				}
				want++
			}
		}
	}
	for _, x := range [][4]int{{1970, 1, 1, 0}, {1970, 1, 2, 1}, {1969, 12, 31, -1}, {2000, 3, 1, 11017}, {1700, 1, 1, -98615}, {2250, 12, 31, 102632}} {
		if n, e := cal.Days(x[0], x[1], x[2]); n != x[3] || e != api.OK {
			t.Errorf("%v: %d, %d", x, n, e)
		}
	}
}

// P4.1: Days refuses what is no right date's.
func TestNoDays(t *testing.T) {
	days := noDays()
	for _, n := range farOut() {
		days = append(days, api.Date{Year: n, Month: 1, Day: 1}, api.Date{Year: 2000, Month: n, Day: 1}, api.Date{Year: 2000, Month: 1, Day: n}, api.Date{Year: n, Month: n, Day: n})
	}
	for _, d := range days {
		if n, e := cal.Days(d.Year, d.Month, d.Day); n != 0 || e != api.ErrArg {
			t.Errorf("%v: %d, %d", d, n, e)
		}
	}
}

// P4.2: Nanos, held against the library's.
func TestNanos(t *testing.T) {
	for _, d := range slices.Concat(edgeDates(), randomDates(20000)) {
		if n, e := cal.Nanos(d); n != libraryTime(d).UnixNano() || e != api.OK {
			t.Errorf("%v: %d, %d; not %d", d, n, e, libraryTime(d).UnixNano())
		}
	}
	minute := int64(time.Minute)
	for i, x := range []struct {
		d api.Date
		n int64
	}{
		{first(), lowNanos},
		{last(), highNanos - 999},
		{date(1700, 1, 1, 0, 0, 0, 0, 1439), lowNanos - 1439*minute},
		{date(2250, 12, 31, 23, 59, 59, 999999000, -1439), highNanos - 999 + 1439*minute},
		{date(1970, 1, 1, 0, 0, 0, 0, 1), -minute},
		{date(1970, 1, 1, 0, 0, 0, 0, -1), minute},
		{date(1970, 1, 1, 1, 2, 3, 4000, 0), 3723000004000},
		{date(1969, 12, 31, 23, 59, 59, 999999000, 0), -1000},
	} {
		if n, e := cal.Nanos(x.d); n != x.n || e != api.OK {
			t.Errorf("%d: %d, %d; not %d", i, n, e, x.n)
		}
	}
}

// P4.2, P4.3: Nanos and Text refuse what isn't right.
func TestWrongDates(t *testing.T) {
	for _, d := range wrongDates() {
		if n, e := cal.Nanos(d); n != 0 || e != api.ErrArg {
			t.Errorf("Nanos of %v: %d, %d", d, n, e)
		}
		if s, e := cal.Text(d); s != "" || e != api.ErrArg {
			t.Errorf("Text of %v: %q, %d", d, s, e)
		}
	}
}

// P4.2: Date, held against the library's: around every midnight, and at random.
func TestDate(t *testing.T) {
	for n := int64(lowNanos); n < highNanos; n += dayNanos {
		for _, k := range []int64{n, n + 1, n + 999, n + 1000, n - 1, n - 999, n - 1000, n - 1001} {
			if k >= lowNanos {
				wantDate(t, k, libraryDate(k))
			}
		}
		if t.Failed() {
			return
		}
	}
	r := rand.New(rand.NewSource(6))
	for range 100000 {
		n := lowNanos + r.Int63n(highNanos/2-lowNanos/2)*2 + r.Int63n(2)
		wantDate(t, n, libraryDate(n))
	}
}

// P4.2: Date goes to the next lower multiple of 1000, below 0 too.
func TestDateOfLastFigures(t *testing.T) {
	zero, ahead := api.Date{Year: 1970, Month: 1, Day: 1}, date(1969, 12, 31, 23, 59, 59, 999999000, 0)
	for n := range int64(1000) {
		wantDate(t, n, zero)
		wantDate(t, n-1000, ahead)
	}
	wantDate(t, 1000, api.Date{Year: 1970, Month: 1, Day: 1, Nano: 1000})
	wantDate(t, -1001, date(1969, 12, 31, 23, 59, 59, 999998000, 0))
	wantDate(t, 1999999999, api.Date{Year: 1970, Month: 1, Day: 1, Second: 1, Nano: 999999000})
	wantDate(t, -1000000001, date(1969, 12, 31, 23, 59, 58, 999999000, 0))
}

// P4.2: Date stays in the years that may be.
func TestDateBeyond(t *testing.T) {
	for _, n := range []int64{math.MinInt64, math.MinInt64 + 1, math.MinInt64 + 807, math.MinInt64 + 808, math.MinInt64 + 1000, lowNanos - 1439*int64(time.Minute), lowNanos - 1000, lowNanos - 999, lowNanos - 1, lowNanos, lowNanos + 999} {
		wantDate(t, n, first())
	}
	for _, n := range []int64{highNanos - 999, highNanos - 998, highNanos, highNanos + 1, highNanos + 1000, highNanos + 1439*int64(time.Minute), math.MaxInt64 - 807, math.MaxInt64 - 1, math.MaxInt64} {
		wantDate(t, n, last())
	}
	wantDate(t, lowNanos+1000, api.Date{Year: 1700, Month: 1, Day: 1, Nano: 1000})
	wantDate(t, highNanos-1000, date(2250, 12, 31, 23, 59, 59, 999998000, 0))
}

// P4.3: Text, held against what the library prints.
func TestText(t *testing.T) {
	for _, d := range slices.Concat(edgeDates(), randomDates(20000)) {
		if s, e := cal.Text(d); s != libraryText(d) || e != api.OK {
			t.Errorf("%v: %q, %d; not %q", d, s, e, libraryText(d))
		}
	}
	for _, x := range []struct {
		d api.Date
		s string
	}{
		{first(), "1700-01-01T00:00:00Z"},
		{last(), "2250-12-31T23:59:59.999999Z"},
		{date(2003, 10, 11, 22, 14, 15, 3000000, -420), "2003-10-11T22:14:15.003000-07:00"},
		{date(2024, 2, 29, 1, 2, 3, 1000, 1439), "2024-02-29T01:02:03.000001+23:59"},
		{date(2024, 2, 29, 1, 2, 3, 0, -1439), "2024-02-29T01:02:03-23:59"},
		{date(2024, 2, 29, 1, 2, 3, 500000000, -1), "2024-02-29T01:02:03.500000-00:01"},
	} {
		if s, e := cal.Text(x.d); s != x.s || e != api.OK {
			t.Errorf("%v: %q, %d; not %q", x.d, s, e, x.s)
		}
	}
}

// tails are what may stand behind a date's text.
func tails() []string {
	return []string{"", " ", " x", "Z", "z", "0", "9", "+00:00", "-", ":00", ".5", ".", "T", "\x00", "\xff\xfe", "2024-02-29T00:00:00Z"}
}

// P4.3: Parse takes what s begins with, and leaves the rest.
func TestParseAndRest(t *testing.T) {
	for _, d := range slices.Concat(randomDates(2000), []api.Date{first(), last()}) {
		for _, tail := range tails() {
			wantParse(t, libraryText(d)+tail, d, tail)
		}
	}
	long := strings.Repeat("9", 1<<20)
	wantParse(t, libraryText(last())+long, last(), long)
}

// P4.3: Parse takes one to six figures behind the point, all of them noughts too.
func TestParseFigures(t *testing.T) {
	for _, figures := range []string{"0", "1", "5", "9", "00", "01", "10", "52", "003", "000", "120", "0000", "0001", "1234", "00000", "99999", "00001", "000000", "000001", "100000", "123456", "999999"} {
		n, err := strconv.Atoi((figures + "000000000")[:9])
		if err != nil {
			t.Fatal(err)
		}
		for _, zone := range []string{"Z", "+00:00", "-00:00"} {
			for _, tail := range tails() {
				wantParse(t, "2024-02-29T23:59:59."+figures+zone+tail, date(2024, 2, 29, 23, 59, 59, n, 0), tail)
			}
		}
	}
	for _, figures := range []string{"", "0000000", "1234567", "12345678", "123456789", "1000000", strings.Repeat("0", 5000), "-1", "+1", " 1", "1 ", "1.", ".1", "1,2", "x", "1x", "12345x", "\x00", "１"} {
		for _, zone := range []string{"Z", "+01:00", "-01:00", ""} {
			wantForm(t, "2024-02-29T23:59:59."+figures+zone)
		}
	}
}

// P4.3: Parse takes all Zones, and those of nothing in three ways.
func TestParseZones(t *testing.T) {
	for h := range 24 {
		for m := range 60 {
			d := api.Date{Year: 2024, Month: 2, Day: 29, Nano: 5000, Zone: 60*h + m}
			wantParse(t, fmt.Sprintf("2024-02-29T00:00:00.000005+%02d:%02d", h, m), d, "")
			d.Zone = -d.Zone
			wantParse(t, fmt.Sprintf("2024-02-29T00:00:00.000005-%02d:%02d", h, m), d, "")
		}
	}
	for _, zone := range []string{"Z", "+00:00", "-00:00"} {
		for _, tail := range tails() {
			wantParse(t, "2024-02-29T00:00:00"+zone+tail, api.Date{Year: 2024, Month: 2, Day: 29}, tail)
		}
	}
	for _, zone := range []string{"", "z", " Z", "+", "-", "+0", "+00", "+00:", "+00:0", "-0:00", "+0:00", "+00.00", "+0000", "+00-00", "+-1:00", "+00:-1", "--1:00", "+ 1:00", "+1 :00", "=00:00", "00:00", "+0x:00", "+00:0x", "+００:00", "\x00", "±00:00"} {
		wantForm(t, "2024-02-29T00:00:00"+zone)
		wantForm(t, "2024-02-29T00:00:00.5"+zone)
	}
	for n := range 100 {
		for _, sign := range []string{"+", "-"} {
			if n > 23 {
				wantForm(t, fmt.Sprintf("2024-02-29T00:00:00%s%02d:00", sign, n))
				wantForm(t, fmt.Sprintf("2024-02-29T00:00:00%s%02d:59Z", sign, n))
			}
			if n > 59 {
				wantForm(t, fmt.Sprintf("2024-02-29T00:00:00%s00:%02d", sign, n))
				wantForm(t, fmt.Sprintf("2024-02-29T00:00:00%s23:%02dZ", sign, n))
			}
		}
	}
}

// P4.3: Parse refuses texts of dates that aren't right.
func TestParseWrongDates(t *testing.T) {
	for n := range 10000 {
		s, d := fmt.Sprintf("%04d-02-28T00:00:00Z", n), api.Date{Year: n, Month: 2, Day: 28}
		if 1700 <= n && n <= 2250 {
			wantParse(t, s, d, "")
		} else {
			wantForm(t, s)
		}
	}
	base := api.Date{Year: 2023, Month: 1, Day: 1}
	for _, f := range fields()[1:6] {
		for n := range 100 {
			d := base
			*f.at(&d) = n
			most := f.most
			if f.name == "Day" {
				most = 31
			}
			if f.least <= n && n <= most {
				wantParse(t, libraryText(d)+" x", d, " x")
			} else {
				wantForm(t, libraryText(d)+" x")
			}
		}
	}
	for _, d := range noDays() {
		if d.Year >= 0 && d.Month >= 0 && d.Day >= 0 {
			wantForm(t, libraryText(d))
		}
	}
	for _, d := range edgeDays() {
		wantParse(t, libraryText(d), d, "")
	}
}

// whole are texts of each form.
func whole() []string {
	return []string{"1985-04-12T23:20:50Z", "1985-04-12T23:20:50.5Z", "1985-04-12T23:20:50.520001Z", "1985-04-12T23:20:50+01:30", "1985-04-12T23:20:50.52-11:07", "2000-02-29T00:00:00.000001-00:00"}
}

// P4.3: Parse refuses a text that is cut at any place, one with a figure too few or too many, and one with another sign in any place.
func TestParseSpoilt(t *testing.T) {
	for _, s := range whole() {
		for at := range len(s) {
			wantForm(t, s[:at])
			wantForm(t, s[:at]+" ")
			wantAsLibrary(t, s[:at]+s[at+1:])
			wantAsLibrary(t, s[:at]+"0"+s[at:])
			for b := range 256 {
				wantAsLibrary(t, s[:at]+string([]byte{byte(b)})+s[at+1:])
			}
		}
		for _, ahead := range []string{" ", "0", "-", "+", "\x00", "\ufeff"} {
			wantForm(t, ahead+s)
		}
		wantForm(t, strings.ToLower(s))
	}
	for _, s := range []string{"", " ", "Z", ".", "-", "T", "1985", "1985-04-12", "1985-04-12 23:20:50Z", "1985/04/12T23:20:50Z", "1985-04-12T23:20Z", "85-04-12T23:20:50Z", "11985-04-12T23:20:50Z", "-985-04-12T23:20:50Z", "+985-04-12T23:20:50Z", "1985-4-12T23:20:50Z", "1985-04-12T23:20:50,5Z", "1985-04-12T23:20:60Z", "1985-04-12T23:20:5Z", "1985-04-12T23:20:500Z", "1985-04-12T23:2:50Z", "1985-04-12T23:200:50Z", "1985-04-12T3:20:50Z", "1985-04-12T023:20:50Z", "1985-04-2T23:20:50Z", "1985-04-012T23:20:50Z", "1985-004-12T23:20:50Z", "1985-04-12T24:00:00Z", "19850412T232050Z", "１985-04-12T23:20:50Z", "1_85-04-12T23:20:50Z", "0x85-04-12T23:20:50Z"} {
		wantForm(t, s)
	}
}

var form = regexp.MustCompile(`^([0-9]{4})-([0-9]{2})-([0-9]{2})T([0-9]{2}):([0-9]{2}):([0-9]{2})(?:\.([0-9]{1,6}))?(?:Z|([+-])([01][0-9]|2[0-3]):([0-5][0-9]))`)

// libraryParse is what Parse should answer, by a pattern and the library's calendar.
func libraryParse(s string) (api.Date, string, bool) {
	m := form.FindStringSubmatch(s)
	if m == nil {
		return api.Date{}, "", false
	}
	n := make([]int, len(m))
	for i := range m {
		n[i], _ = strconv.Atoi(m[i])
	}
	nano, _ := strconv.Atoi((m[7] + "000000000")[:9])
	d := date(n[1], n[2], n[3], n[4], n[5], n[6], nano, 60*n[9]+n[10])
	if m[8] == "-" {
		d.Zone = -d.Zone
	}
	_, err := time.Parse("2006-01-02T15:04:05", s[:19])
	if err != nil || d.Year < 1700 || d.Year > 2250 {
		return api.Date{}, "", false
	}
	return d, s[len(m[0]):], true
}

// wantAsLibrary fails the test, unless Parse answers as libraryParse does; it tells whether s is taken.
func wantAsLibrary(t *testing.T, s string) bool {
	t.Helper()
	d, rest, is := libraryParse(s)
	if is {
		wantParse(t, s, d, rest)
	} else {
		wantForm(t, s)
	}
	return is
}

// P4.3: Parse, held against a pattern, whatever was done to a text.
func TestParseOfAnything(t *testing.T) {
	r := rand.New(rand.NewSource(8))
	signs, taken := "00112359-T:.Z+ z\xff", 0
	for range 200000 {
		b := []byte(whole()[r.Intn(len(whole()))])
		for range 1 + r.Intn(3) {
			at, sign := r.Intn(len(b)), signs[r.Intn(len(signs))]
			switch r.Intn(4) {
			case 0:
				b = slices.Insert(b, at, sign)
			case 1:
				b = slices.Delete(b, at, at+1)
			default:
				b[at] = sign
			}
		}
		if wantAsLibrary(t, string(b)) {
			taken++
		}
	}
	if taken < 5000 {
		t.Errorf("only %d taken", taken)
	}
}

// P4.4: a right date's text is parsed as it.
func TestTextAndBack(t *testing.T) {
	for _, d := range slices.Concat(edgeDates(), randomDates(20000)) {
		s, e := cal.Text(d)
		if e != api.OK {
			t.Errorf("%v: %d", d, e)
		}
		wantParse(t, s, d, "")
	}
}

// P4.4: nanoseconds rise with dates of one Zone.
func TestNanosRise(t *testing.T) {
	order := func(a, b api.Date) int {
		return slices.Compare([]int{a.Year, a.Month, a.Day, a.Hour, a.Minute, a.Second, a.Nano}, []int{b.Year, b.Month, b.Day, b.Hour, b.Minute, b.Second, b.Nano})
	}
	for _, zone := range []int{-1439, -420, 0, 1, 1439} {
		dates := slices.Concat(edgeDates(), randomDates(20000), []api.Date{first(), last()})
		for i := range dates {
			dates[i].Zone = zone
		}
		slices.SortFunc(dates, order)
		dates = slices.Compact(dates)
		before := int64(math.MinInt64)
		for _, d := range dates {
			n, e := cal.Nanos(d)
			if e != api.OK || n <= before {
				t.Errorf("%v: %d, %d behind %d", d, n, e, before)
			}
			before = n
		}
	}
}

// P4.4: Date of Nanos is the same moment, and at Zone 0 the same date; where a Zone leads out of the years that may be, P4.2 holds.
func TestDateOfNanos(t *testing.T) {
	for _, d := range slices.Concat(edgeDates(), randomDates(20000), []api.Date{first(), last()}) {
		n, _ := cal.Nanos(d)
		back := cal.Date(n)
		again, e := cal.Nanos(back)
		if want := min(max(n, lowNanos), highNanos-999); !cal.Right(back) || back.Zone != 0 || again != want || e != api.OK {
			t.Errorf("%v: %v, %d, %d; not %d", d, back, again, e, want)
		}
		if d.Zone == 0 && back != d {
			t.Errorf("%v: %v", d, back)
		}
	}
}

// R4: what was asked before is not seen in an answer.
func TestNothingIsKept(t *testing.T) {
	for range 3 {
		wantForm(t, "2024-02-30T00:00:00Z")
		wantParse(t, "2024-02-29T00:00:00Z", api.Date{Year: 2024, Month: 2, Day: 29}, "")
		wantDate(t, math.MaxInt64, last())
		wantDate(t, 0, api.Date{Year: 1970, Month: 1, Day: 1})
		if n := cal.Length(2024, 2) + cal.Length(2023, 2); n != 57 {
			t.Error(n)
		}
	}
}
