package posixtz_test

import (
	"fmt"
	"math"
	"regexp"
	"strconv"
	"strings"
	"testing"

	"zoneinfo/api"
	"zoneinfo/posixtz"
)

const (
	// maxOffset is 24:59:59.
	maxOffset = 89999
	// maxTime is 167:59:59.
	maxTime = 604799
	// maxName is the greatest length of a designation.
	maxName = 255
)

func julian(day, time int) api.RuleDay {
	return api.RuleDay{Kind: api.DayJulian, Day: day, Time: time}
}

func zero(day, time int) api.RuleDay {
	return api.RuleDay{Kind: api.DayZero, Day: day, Time: time}
}

func month(month, week, weekday, time int) api.RuleDay {
	return api.RuleDay{Kind: api.DayMonth, Month: month, Week: week, Weekday: weekday, Time: time}
}

func standard(std string, offset int) api.Rule { return api.Rule{Std: std, StdOffset: offset} }

func daylight(std string, stdOffset int, dst string, dstOffset int, start, end api.RuleDay) api.Rule {
	return api.Rule{Std: std, StdOffset: stdOffset, HasDst: true, Dst: dst, DstOffset: dstOffset, Start: start, End: end}
}

// eastern is EST5EDT,M3.2.0,M11.1.0.
func eastern() api.Rule {
	return daylight("EST", -18000, "EDT", -14400, month(3, 2, 0, 7200), month(11, 1, 0, 7200))
}

// What follows up to expectedRule parses rules by regular expressions, which
// the program may not use.
var (
	namePart     = regexp.MustCompile(`^(?:<([^>]*)>|([A-Za-z]*))`)
	nameBytes    = regexp.MustCompile(`^[-+0-9A-Za-z]{3,255}$`)
	durationPart = regexp.MustCompile(`^([+-]?)([0-9]+)(?::([0-5][0-9])(?::([0-5][0-9]))?)?`)
	dayPart      = regexp.MustCompile(`^(?:J([0-9]+)|([0-9]+)|M([0-9]+)\.([0-9]+)\.([0-9]+))`)
)

// number is the value of the digits, or one that is out of every range if there
// are more than 3 of them.
func number(digits string) int {
	if len(digits) > 3 {
		return math.MaxInt32
	}
	n, _ := strconv.Atoi(digits)
	return n
}

func expectedName(s string) (string, int, bool) {
	m := namePart.FindStringSubmatch(s)
	if m == nil || !nameBytes.MatchString(m[1]+m[2]) {
		return "", 0, false
	}
	return m[1] + m[2], len(m[0]), true
}

func expectedDuration(s string) (int, int, bool) {
	m := durationPart.FindStringSubmatch(s)
	if m == nil || number(m[2]) > 167 {
		return 0, 0, false
	}
	sec := number(m[2])*3600 + number(m[3])*60 + number(m[4])
	if m[1] == "-" {
		sec = -sec
	}
	return sec, len(m[0]), true
}

func between(v, low, high int) bool { return low <= v && v <= high }

func expectedDay(s string) (api.RuleDay, int, bool) {
	m := dayPart.FindStringSubmatch(s)
	if m == nil {
		return api.RuleDay{}, 0, false
	}
	var d api.RuleDay
	var ok bool
	switch {
	case m[1] != "":
		d, ok = julian(number(m[1]), 7200), between(number(m[1]), 1, 365)
	case m[2] != "":
		d, ok = zero(number(m[2]), 7200), between(number(m[2]), 0, 365)
	default:
		mm, w, wd := number(m[3]), number(m[4]), number(m[5])
		d, ok = month(mm, w, wd, 7200), between(mm, 1, 12) && between(w, 1, 5) && between(wd, 0, 6)
	}
	size := len(m[0])
	if strings.HasPrefix(s[size:], "/") {
		sec, n, given := expectedDuration(s[size+1:])
		d.Time, size, ok = sec, size+1+n, ok && given
	}
	if !ok {
		return api.RuleDay{}, 0, false
	}
	return d, size, true
}

// expectedRule is what Parse returns: the rule and -1, or the zero Rule and the
// offset of the failure.
func expectedRule(s string) (api.Rule, int) {
	var r api.Rule
	at := 0
	take := func(size int, ok bool) bool {
		at += size
		return ok
	}
	comma := func() bool {
		ok := strings.HasPrefix(s[at:], ",")
		return ok && take(1, true)
	}
	name := func(to *string) bool {
		v, size, ok := expectedName(s[at:])
		*to = v
		return take(size, ok)
	}
	offset := func(to *int) bool {
		v, size, ok := expectedDuration(s[at:])
		if !ok || !between(v, -maxOffset, maxOffset) {
			return false
		}
		*to = -v
		return take(size, true)
	}
	dstOffset := func() bool {
		if _, _, ok := expectedDuration(s[at:]); ok {
			return offset(&r.DstOffset)
		}
		r.DstOffset = r.StdOffset + 3600
		return true
	}
	day := func(to *api.RuleDay) bool {
		v, size, ok := expectedDay(s[at:])
		*to = v
		return take(size, ok)
	}
	if !name(&r.Std) || !offset(&r.StdOffset) {
		return api.Rule{}, at
	}
	if at == len(s) {
		return r, -1
	}
	r.HasDst = true
	if !name(&r.Dst) || !dstOffset() || !comma() || !day(&r.Start) || !comma() || !day(&r.End) {
		return api.Rule{}, at
	}
	if at < len(s) || !between(r.DstOffset, -maxOffset, maxOffset) {
		return api.Rule{}, at
	}
	return r, -1
}

func checkParse(t *testing.T, s string, want api.Rule) {
	t.Helper()
	r, why, at := posixtz.Parse(s)
	if r != want || why != api.OK || at != 0 {
		t.Errorf("Parse(%q) = %+v, %d, %d, want %+v, 0, 0", s, r, why, at, want)
	}
	if !posixtz.Valid(r) {
		t.Errorf("Parse(%q) = %+v, which is not valid", s, r)
	}
}

func checkFails(t *testing.T, s string, want int) {
	t.Helper()
	if r, why, at := posixtz.Parse(s); r != (api.Rule{}) || why != api.ErrFooter || at != want {
		t.Errorf("Parse(%q) = %+v, %d, %d, want the zero Rule, %d, %d", s, r, why, at, api.ErrFooter, want)
	}
}

// checkMarked holds the offset of the failure against the place of the mark ^,
// which stands in front of the part that cannot be parsed.
func checkMarked(t *testing.T, marked string) {
	t.Helper()
	before, after, found := strings.Cut(marked, "^")
	if !found {
		t.Errorf("%q has no mark", marked)
	}
	checkFails(t, before+after, len(before))
}

// checkExpected holds Parse against the regular expressions.
func checkExpected(t *testing.T, s string) {
	t.Helper()
	if r, at := expectedRule(s); at < 0 {
		checkParse(t, s, r)
	} else {
		checkFails(t, s, at)
	}
}

func checkDay(t *testing.T, s string, want api.RuleDay, wantSize int) {
	t.Helper()
	if d, size, ok := posixtz.Day(s); d != want || size != wantSize || !ok {
		t.Errorf("Day(%q) = %+v, %d, %v, want %+v, %d, true", s, d, size, ok, want, wantSize)
	}
}

func checkNoDay(t *testing.T, s string) {
	t.Helper()
	if d, size, ok := posixtz.Day(s); d != (api.RuleDay{}) || size != 0 || ok {
		t.Errorf("Day(%q) = %+v, %d, %v, want the zero RuleDay, 0, false", s, d, size, ok)
	}
}

func checkExpectedDay(t *testing.T, s string) {
	t.Helper()
	if d, size, ok := expectedDay(s); ok {
		checkDay(t, s, d, size)
	} else {
		checkNoDay(t, s)
	}
}

func checkValid(t *testing.T, r api.Rule, want bool) {
	t.Helper()
	if got := posixtz.Valid(r); got != want {
		t.Errorf("Valid(%+v) = %v, want %v", r, got, want)
	}
}

// P9.2: the examples of the chapter and of the document.
func TestParseExamples(t *testing.T) {
	checkParse(t, "EST5EDT,M3.2.0,M11.1.0", eastern())
	checkParse(t, "EST+5:00EDT4,M03.2.0/02,M11.1.0", eastern())
	checkParse(t, "EST5EDT,0/0,J365/25", daylight("EST", -18000, "EDT", -14400, zero(0, 0), julian(365, 90000)))
	checkParse(t, "UTC0", standard("UTC", 0))
	checkParse(t, "<+03>-3", standard("+03", 10800))
	checkParse(t, "NZST-12NZDT,M9.5.0,M4.1.0/3", daylight("NZST", 43200, "NZDT", 46800, month(9, 5, 0, 7200), month(4, 1, 0, 10800)))
}

// P9.2: rules without daylight saving time.
func TestParseStandard(t *testing.T) {
	for s, want := range map[string]api.Rule{
		"EST5":            standard("EST", -18000),
		"EST+5":           standard("EST", -18000),
		"EST005":          standard("EST", -18000),
		"JST-9":           standard("JST", 32400),
		"IST-5:30":        standard("IST", 19800),
		"LMT4:56:02":      standard("LMT", -17762),
		"LMT-4:56:02":     standard("LMT", 17762),
		"UTC-0":           standard("UTC", 0),
		"UTC+00:00:00":    standard("UTC", 0),
		"<UTC>0":          standard("UTC", 0),
		"<-00>0":          standard("-00", 0),
		"<+0330>-3:30":    standard("+0330", 12600),
		"<-03>3":          standard("-03", -10800),
		"<+12>-012:00:00": standard("+12", 43200),
		"<a1->1":          standard("a1-", -3600),
		"abcdefghij1":     standard("abcdefghij", -3600),
	} {
		checkParse(t, s, want)
	}
}

// P9.2: rules with daylight saving time, with and without its offset.
func TestParseDaylight(t *testing.T) {
	start, end := month(3, 5, 0, 7200), month(10, 5, 6, 7200)
	for s, want := range map[string]api.Rule{
		"CET-1CEST,M3.5.0,M10.5.6":             daylight("CET", 3600, "CEST", 7200, start, end),
		"CET-1CEST-2,M3.5.0,M10.5.6":           daylight("CET", 3600, "CEST", 7200, start, end),
		"CET-1CEST-2:00:00,M3.5.0,M10.5.6":     daylight("CET", 3600, "CEST", 7200, start, end),
		"CET-1CEST+2,M3.5.0,M10.5.6":           daylight("CET", 3600, "CEST", -7200, start, end),
		"CET-1CEST0,M3.5.0,M10.5.6":            daylight("CET", 3600, "CEST", 0, start, end),
		"IST-1GMT0,M3.5.0,M10.5.6":             daylight("IST", 3600, "GMT", 0, start, end),
		"<+1030>-10:30<+11>-11,M3.5.0,M10.5.6": daylight("+1030", 37800, "+11", 39600, start, end),
		"<+1030>-10:30<+11>,M3.5.0,M10.5.6":    daylight("+1030", 37800, "+11", 41400, start, end),
		"CST6<abc>,M3.5.0,M10.5.6":             daylight("CST", -21600, "abc", -18000, start, end),
		"<x-1>1EDT,M3.5.0,M10.5.6":             daylight("x-1", -3600, "EDT", 0, start, end),
		"ABC0ABC0,M3.5.0,M10.5.6":              daylight("ABC", 0, "ABC", 0, start, end),
		"LMT-0:00:01XST,M3.5.0,M10.5.6":        daylight("LMT", 1, "XST", 3601, start, end),
	} {
		checkParse(t, s, want)
	}
}

// P9.2: days of all three forms, with and without times, as start and as end.
func TestParseDays(t *testing.T) {
	days := map[string]api.RuleDay{
		"J60":            julian(60, 7200),
		"J060/0":         julian(60, 0),
		"J365/-1":        julian(365, -3600),
		"0":              zero(0, 7200),
		"059/2:30":       zero(59, 9000),
		"365/25":         zero(365, 90000),
		"M1.1.0":         month(1, 1, 0, 7200),
		"M12.5.6/-167":   month(12, 5, 6, -601200),
		"M010.05.006/+3": month(10, 5, 6, 10800),
		"M3.2.0/1:02:03": month(3, 2, 0, 3723),
	}
	for start, wantStart := range days {
		for end, wantEnd := range days {
			checkParse(t, "AAA3BBB,"+start+","+end, daylight("AAA", -10800, "BBB", -7200, wantStart, wantEnd))
		}
	}
}

// P9.2: offsets up to 24:59:59 of either sign, for standard time and for
// daylight saving time.
func TestParseOffsets(t *testing.T) {
	const tail = ",M3.2.0,M11.1.0"
	r := eastern()
	for s, west := range map[string]int{
		"24": 86400, "24:59": 89940, "24:59:59": maxOffset, "+24:59:59": maxOffset, "024:59:59": maxOffset,
		"-24": -86400, "-24:59": -89940, "-24:59:59": -maxOffset, "-024:59:59": -maxOffset, "0": 0, "-0:00:01": -1,
	} {
		checkParse(t, "EST"+s, standard("EST", -west))
		checkParse(t, "EST"+s+"EDT0"+tail, daylight("EST", -west, "EDT", 0, r.Start, r.End))
		checkParse(t, "EST0EDT"+s+tail, daylight("EST", 0, "EDT", -west, r.Start, r.End))
	}
	for _, s := range []string{"25", "+25", "-25", "25:00:00", "-25:00:00", "025", "100", "-167", "167:59:59", "168", "-168", "999", "0005", "1234"} {
		checkMarked(t, "EST^"+s)
		checkMarked(t, "EST^"+s+"EDT"+tail)
		checkMarked(t, "EST^"+s+"EDT4"+tail)
		checkMarked(t, "EST5EDT^"+s+tail)
		checkMarked(t, "EST5EDT^"+s)
		checkMarked(t, "EST5EDT^"+s+",x")
	}
}

// P9.2: a default of daylight saving time that is out of range fails behind the
// complete rule, and does not come before a part that cannot be parsed.
func TestParseDefault(t *testing.T) {
	const tail = ",M3.2.0,M11.1.0"
	r := eastern()
	checkParse(t, "AAA-23:59:59BBB"+tail, daylight("AAA", 86399, "BBB", maxOffset, r.Start, r.End))
	checkParse(t, "AAA24:59:59BBB"+tail, daylight("AAA", -maxOffset, "BBB", -86399, r.Start, r.End))
	for _, std := range []string{"-24", "-24:00:01", "-24:59:59"} {
		checkMarked(t, "AAA"+std+"BBB"+tail+"^")
		checkMarked(t, "AAA"+std+"BBB"+tail+"^,")
		checkMarked(t, "AAA"+std+"BBB"+tail+"^x")
		checkMarked(t, "AAA"+std+"BBB,0/0,J365/25^")
		checkMarked(t, "AAA"+std+"BBB^")
		checkMarked(t, "AAA"+std+"BBB,^x")
		checkMarked(t, "AAA"+std+"BBB,0^")
		checkMarked(t, "AAA"+std+"BBB,0,^")
		checkParse(t, "AAA"+std+"BBB-24:59:59"+tail, daylight("AAA", -seconds(std), "BBB", maxOffset, r.Start, r.End))
	}
}

// seconds is the value of a duration.
func seconds(s string) int {
	sec, _, _ := expectedDuration(s)
	return sec
}

// P9.2: the first designation that cannot be parsed fails at 0.
func TestParseFirstDesignation(t *testing.T) {
	for _, s := range []string{
		"", "E", "ES", "ES5", "5", "-5", ",", "<", "<>", "<>0", "<ab>0", "<EST5", "<EST", ">EST>5", "<E T>5", "<E,T>5", "<E_T>5",
		"<é12>5", "\x00EST5", " EST5", "\nEST5", "\xffEST5", "éEST5", "E1T5", "E+T5", ":EST5", "<<EST>5", "ES\xc55",
		strings.Repeat("A", maxName+1) + "5", "<" + strings.Repeat("1", maxName+1) + ">5",
	} {
		checkFails(t, s, 0)
	}
	for _, n := range []int{3, 4, maxName - 1, maxName} {
		bare, quoted := strings.Repeat("A", n), strings.Repeat("1", n)
		checkParse(t, bare+"5", standard(bare, -18000))
		checkParse(t, "<"+quoted+">5", standard(quoted, -18000))
		checkParse(t, bare+"5<"+quoted+">,0,0", daylight(bare, -18000, quoted, -14400, zero(0, 7200), zero(0, 7200)))
	}
}

// P9.2: a designation alone lacks its offset.
func TestParseNoOffset(t *testing.T) {
	for _, s := range []string{
		"EST^", "<+03>^", "EST^+", "EST^-", "EST^:30", "EST^ 5", "EST^,M3.2.0,M11.1.0", "EST^--5", "EST^<EDT>4", "EST^>5", "<EST>^EDT", "EST^\xff5",
		"EST^/5", "EST^\x005", "EST^\n", "EST^é5", "<EST>^>5",
	} {
		checkMarked(t, s)
	}
}

// P9.2: what follows the first offset must be the second designation.
func TestParseSecondDesignation(t *testing.T) {
	for _, s := range []string{
		"EST5^E", "EST5^ED", "EST5^ED,M3.2.0,M11.1.0", "EST5^ED4,M3.2.0,M11.1.0", "EST5^,M3.2.0,M11.1.0", "EST5^,", "EST5^:", "EST5^:3", "EST5^:60",
		"EST5:30^:60", "EST5:30^:6", "EST5:30:15^:15", "EST5:30^0", "EST5^ ", "EST5^\n", "EST5^\x00", "EST5^\xff", "EST5^é", "EST5^+", "EST5^-", "EST5^-5",
		"EST5^<EDT", "EST5^<EDT,M3.2.0,M11.1.0", "EST5^<>", "EST5^<+4>,M3.2.0,M11.1.0", "EST5^<E T>,M3.2.0,M11.1.0", "EST5^/2", "EST5^.", "EST5^>",
		"EST5^" + strings.Repeat("A", maxName+1) + ",0,0", "EST5^<" + strings.Repeat("A", maxName+1) + ">,0,0",
	} {
		checkMarked(t, s)
	}
}

// P9.2: a comma that is missing, in front of the start or of the end.
func TestParseComma(t *testing.T) {
	for _, s := range []string{
		"EST5EDT^", "EST5EDT4^", "<+03>-3<+04>^", "EST5EDTM3^.2.0,M11.1.0", "EST5EDT1^.2", "EST5EDT4^M3.2.0,M11.1.0", "EST5<EDT>^M3.2.0,M11.1.0",
		"EST5EDT^ ,0,0", "EST5EDT^;0,0", "EST5EDT^:0,0", "EST5EDT4^:60,0,0", "EST5EDT4:30^:60,0,0", "EST5EDT4:30:15^:15,0,0", "EST5EDT4:30^0,0,0",
		"EST5EDT^\n", "EST5EDT^\xff", "EST5EDT^+,0,0", "EST5EDT^-,0,0", "EST5EDT^>,0,0", "EST5EDT^/2,0,0", "EST5<EDT>^EDT,0,0", "EST5EDT^--4,0,0",
		"EST5EDT,0^", "EST5EDT,M3.2.0^", "EST5EDT,M3.2.0/2^", "EST5EDT,0^ ,0", "EST5EDT,0^;0", "EST5EDT,0^:0,0", "EST5EDT,0/2^:60,0", "EST5EDT,0/2^/2,0",
		"EST5EDT,0/2:30^:60,0", "EST5EDT,0/2:30^0,0", "EST5EDT,0^M3.2.0", "EST5EDT,J1^J1,0", "EST5EDT,M3.2.0^.1,0", "EST5EDT,0^.1,0", "EST5EDT,0^\n,0",
		"EST5EDT,0^+1,0", "EST5EDT,0^-1,0", "EST5EDT,M3.2.0^M11.1.0", "EST5EDT,0^\x80,0",
	} {
		checkMarked(t, s)
	}
}

// noDays lists strings without a day at their beginning.
func noDays() []string {
	return []string{
		"", ",", "x", " ", "\n", "\x00", "\xff", "é", "/", "/2", "-1", "+1", " 1", ".", ":", "j1", "m3.2.0", "Q1", "<1>",
		// Jn and n.
		"J", "J0", "J00", "J000", "J366", "J367", "J999", "J0001", "J0365", "J1000", "J3650", "J-1", "J+1", "J 1", "JJ1", "Jx", "J/2", "J.1", "J,1", "J\xff",
		"366", "367", "999", "0000", "0001", "0365", "1000", "3650", "00000000000000000000001", "18446744073709551617", "J18446744073709551617",
		// Mm.w.d.
		"M", "M3", "M3.", "M3.2", "M3.2.", "M.2.0", "M3..0", "M..", "M...", "M.3.2.0", "M320", "M3,2,0", "M3.2,0", "M3:2:0", "M3.2:0", "M3 .2.0", "M3. 2.0", "M3.2. 0", "M 3.2.0",
		"M0.2.0", "M00.2.0", "M000.2.0", "M13.2.0", "M99.2.0", "M999.2.0", "M-3.2.0", "M+3.2.0",
		"M3.0.0", "M3.00.0", "M3.6.0", "M3.999.0", "M3.-2.0", "M3.+2.0",
		"M3.2.7", "M3.2.07", "M3.2.8", "M3.2.10", "M3.2.60", "M3.2.999", "M3.2.-0", "M3.2.+0", "M3.2.x", "M3.2./2",
		"M0003.2.0", "M0012.2.0", "M3.0002.0", "M3.2.0000", "M3.2.0006", "M1200.2.0", "MM3.2.0", "MJ1", "JM3.2.0", "M3.2.\xb2", "M18446744073709551619.2.0",
		// A slash that is not followed by a duration.
		"0/", "J1/", "M3.2.0/", "0/,", "0/x", "0//2", "0/+", "0/-", "0/--2", "0/:30", "0/ 2", "0/168", "0/-168", "0/+168", "0/168:00", "0/999", "0/0002", "0/\xff", "0/\n",
		"J1/168", "J1/-", "M3.2.0/168", "M3.2.0/-168:00:00", "M3.2.0/x", "M3.2.0/M3.2.0",
		// A time does not help a day that is out of range.
		"J0/2", "J366/2", "366/2", "M13.2.0/2", "M3.6.0/2", "M3.2.7/2",
	}
}

// P9.2: a start or an end that cannot be parsed fails at its beginning, with
// whatever is behind it.
func TestParseNoDay(t *testing.T) {
	for _, s := range noDays() {
		for _, before := range []string{"EST5EDT,", "EST5EDT4,", "<+03>-3<+04>,", "EST5EDT,0,", "EST5EDT,M3.2.0/2,", "EST5EDT4,J1/-1,"} {
			checkFails(t, before+s, len(before))
			checkFails(t, before+s+",M11.1.0", len(before))
		}
	}
	for _, s := range []string{"EST5EDT,^,M3.2.0,M11.1.0", "EST5EDT,M3.2.0,^,M11.1.0", "EST5EDT,^", "EST5EDT,M3.2.0,^", "EST5EDT,^,"} {
		checkMarked(t, s)
	}
}

// P9.2: bytes behind a complete rule.
func TestParseTrailing(t *testing.T) {
	for _, rule := range []string{"EST5EDT,M3.2.0,M11.1.0", "EST5EDT4,M3.2.0/2,M11.1.0/2", "<+03>-3<+04>,J1,J365/-1:30", "AAA0BBB,0/0,365/167:59:59"} {
		checkExpected(t, rule)
		for c := range 256 {
			b := string([]byte{byte(c)})
			checkExpected(t, rule+b)
			for _, tail := range []string{"0", "00", ":00", ",", "M3.2.0", "\xff"} {
				checkExpected(t, rule+b+tail)
			}
			if !strings.Contains("/:0123456789", b) {
				checkFails(t, rule+b, len(rule))
			}
		}
	}
	for _, s := range []string{
		"EST5EDT,M3.2.0,M11.1.0^,", "EST5EDT,M3.2.0,M11.1.0^,M11.1.0", "EST5EDT,M3.2.0,M11.1.0^:00", "EST5EDT,M3.2.0,M11.1.0^ ", "EST5EDT,M3.2.0,M11.1.0^\n",
		"EST5EDT,M3.2.0,M11.1.0^\x00", "EST5EDT,M3.2.0,M11.1.0^\x80", "EST5EDT,M3.2.0,M11.1.0/2^:60", "EST5EDT,M3.2.0,M11.1.0/2^/2", "EST5EDT,M3.2.0,M11.1.0^.0",
		"EST5EDT,M3.2.0,M11.1.0/2:30:15^:15", "EST5EDT,M3.2.0,M11.1.0/2:30^0", "EST5EDT,0,0^EST5EDT,0,0", "EST5EDT,0,0^-1", "EST5EDT,0,J1^J1",
	} {
		checkMarked(t, s)
	}
	// A digit behind an end belongs to it.
	checkMarked(t, "EST5EDT,M3.2.0,^M11.1.07")
	checkMarked(t, "EST5EDT,M3.2.0,^M11.1.0000")
	checkMarked(t, "EST5EDT,M3.2.0,^3650")
	checkMarked(t, "EST5EDT,M3.2.0,^M11.1.0/1678")
}

// P9.2: all strings that differ from a rule by one byte, and all beginnings of
// rules.
func TestParseBytes(t *testing.T) {
	for _, s := range []string{
		"UTC0", "<+03>-3", "EST5EDT,M3.2.0,M11.1.0", "EST+5:00EDT4,M03.2.0/02,M11.1.0", "<-a1>-12:34:56<+13>-24:59:59,J365/-1:02:03,365/167:59:59", "AAA-24BBB,0,M12.5.6",
	} {
		checkExpected(t, s)
		for i := range s {
			checkExpected(t, s[:i])
			checkExpected(t, s[i:])
			checkExpected(t, s[:i]+s[i+1:])
			for c := range 256 {
				b := string([]byte{byte(c)})
				checkExpected(t, s[:i]+b+s[i+1:])
				checkExpected(t, s[:i]+b+s[i:])
			}
		}
	}
}

// P9.2: strings put together from parts, in and out of place.
func TestParseParts(t *testing.T) {
	parts := []string{"EST", "<+03>", "ED", "5", "-24:59:59", "25", ":30", ",", "J1", "0/0", "M3.2.0", "/2", "\n"}
	var walk func(s string, more int)
	walk = func(s string, more int) {
		checkExpected(t, s)
		if more == 0 {
			return
		}
		for _, part := range parts {
			walk(s+part, more-1)
		}
	}
	walk("", 4)
	walk("EST5", 4)
	walk("EST5EDT", 4)
	walk("EST5EDT,0", 4)
}

// P9.1: days of all three forms, with the time 02:00:00 if there is none.
func TestDay(t *testing.T) {
	for day := 1; day <= 365; day++ {
		for _, digits := range []string{"%d", "%02d", "%03d"} {
			s := fmt.Sprintf(digits, day)
			checkDay(t, "J"+s, julian(day, 7200), len(s)+1)
			checkDay(t, s, zero(day, 7200), len(s))
		}
	}
	for _, s := range []string{"0", "00", "000"} {
		checkDay(t, s, zero(0, 7200), len(s))
	}
	for m := 1; m <= 12; m++ {
		for w := 1; w <= 5; w++ {
			for d := range 7 {
				for _, form := range []string{"M%d.%d.%d", "M%02d.%d.%d", "M%d.%02d.%d", "M%d.%d.%02d", "M%03d.%03d.%03d"} {
					s := fmt.Sprintf(form, m, w, d)
					checkDay(t, s, month(m, w, d, 7200), len(s))
				}
			}
		}
	}
}

// P9.1: each number below, at and above its bounds, with up to 4 digits.
func TestDayBounds(t *testing.T) {
	for n := range 1100 {
		for _, digits := range []string{"%d", "%02d", "%03d", "%04d"} {
			s := fmt.Sprintf(digits, n)
			for _, day := range []string{s, "J" + s, "M" + s + ".5.6", "M12." + s + ".0", "M1.1." + s} {
				checkExpectedDay(t, day)
				checkExpectedDay(t, day+"/2")
				checkExpectedDay(t, day+",")
			}
		}
	}
	for _, s := range noDays() {
		checkNoDay(t, s)
	}
}

// P9.1: a time is any duration, up to 167:59:59 of either sign.
func TestDayTime(t *testing.T) {
	for s, sec := range map[string]int{
		"0": 0, "-0": 0, "2": 7200, "+2": 7200, "02": 7200, "002": 7200, "-2": -7200, "24": 86400, "25": 90000, "-1:30": -5400, "3:04:05": 11045,
		"0:00:01": 1, "-0:00:01": -1, "167": 601200, "-167": -601200, "167:59:59": maxTime, "+167:59:59": maxTime, "-167:59:59": -maxTime,
	} {
		checkDay(t, "J60/"+s, julian(60, sec), 4+len(s))
		checkDay(t, "60/"+s, zero(60, sec), 3+len(s))
		checkDay(t, "M3.2.0/"+s, month(3, 2, 0, sec), 7+len(s))
		checkDay(t, "M3.2.0/"+s+",M11.1.0", month(3, 2, 0, sec), 7+len(s))
	}
}

// P9.1: what is behind the day and behind the time is left, unless it belongs
// to them.
func TestDayFollowed(t *testing.T) {
	for c := range 256 {
		b := string([]byte{byte(c)})
		for _, s := range []string{"J36", "J365", "36", "365", "M3.2.0", "M3.2.6", "M3.2.0/2", "M3.2.0/16", "J1/2:30", "0/2:30:15", "0/-167:59:59"} {
			checkExpectedDay(t, s)
			for _, tail := range []string{"", "0", "30", ":30", ",", "\x80"} {
				checkExpectedDay(t, s+b+tail)
			}
		}
	}
	for _, tail := range []string{",", ",M11.1.0", " ", "\n", "x", ":00", ".0", "-1", "+1", "J1", "M3.2.0", "\x00", "\xff", "é"} {
		checkDay(t, "J60"+tail, julian(60, 7200), 3)
		checkDay(t, "60"+tail, zero(60, 7200), 2)
		checkDay(t, "M3.2.0"+tail, month(3, 2, 0, 7200), 6)
		if tail != ":00" {
			checkDay(t, "M3.2.0/3"+tail, month(3, 2, 0, 10800), 8)
		}
	}
	checkDay(t, "M3.2.0/3:00", month(3, 2, 0, 10800), 11)
	checkDay(t, "M3.2.0/3:60", month(3, 2, 0, 10800), 8)
	checkDay(t, "M3.2.0/3/4", month(3, 2, 0, 10800), 8)
	checkDay(t, "M3.2.0/3:00:00:00", month(3, 2, 0, 10800), 14)
}

// P9.1: valid rules.
func TestValid(t *testing.T) {
	checkValid(t, eastern(), true)
	for _, name := range []string{"UTC", "abc", "+03", "-00", "123", "+-+", strings.Repeat("A", maxName)} {
		r := eastern()
		r.Std = name
		checkValid(t, r, true)
		r = eastern()
		r.Dst = name
		checkValid(t, r, true)
		checkValid(t, standard(name, 0), true)
	}
}

// P9.1: offsets between -89999 and 89999 seconds, of either time, which need
// not lie one hour apart.
func TestValidOffsets(t *testing.T) {
	for offset, want := range map[int]bool{
		-maxOffset - 1: false, -maxOffset: true, -maxOffset + 1: true, -86400: true, -1: true, 0: true, 1: true, 86400: true, maxOffset - 1: true, maxOffset: true,
		maxOffset + 1: false, 1 << 32: false, -1 << 32: false, math.MinInt: false, math.MinInt + 1: false, math.MaxInt: false,
	} {
		r := eastern()
		r.StdOffset = offset
		checkValid(t, r, want)
		r = eastern()
		r.DstOffset = offset
		checkValid(t, r, want)
		checkValid(t, standard("EST", offset), want)
	}
}

// P9.1: designations that are none, of either time.
func TestValidNames(t *testing.T) {
	for _, name := range []string{"", "A", "AB", "A B", "A_B", "<AB>", "ABC\x00", "AB\n", "é12", "\xffAB", "A,B", "A:B", strings.Repeat("A", maxName+1)} {
		r := eastern()
		r.Std = name
		checkValid(t, r, false)
		r = eastern()
		r.Dst = name
		checkValid(t, r, false)
		checkValid(t, standard(name, 0), false)
	}
}

// P9.1: rule days at their bounds and just outside of them.
func TestValidDays(t *testing.T) {
	with := func(d api.RuleDay, want bool) {
		t.Helper()
		r := eastern()
		r.Start = d
		checkValid(t, r, want)
		r = eastern()
		r.End = d
		checkValid(t, r, want)
	}
	for _, d := range []api.RuleDay{
		julian(1, 0), julian(365, 0), zero(0, 0), zero(365, 0), month(1, 1, 0, 0), month(12, 5, 6, 0), julian(1, maxTime), zero(0, -maxTime), month(3, 2, 0, -maxTime), month(3, 2, 0, maxTime),
	} {
		with(d, true)
	}
	for _, d := range []api.RuleDay{
		{}, {Time: 7200}, {Kind: 4, Day: 1}, {Kind: -1}, julian(0, 0), julian(366, 0), zero(-1, 0), zero(366, 0),
		month(0, 1, 0, 0), month(13, 1, 0, 0), month(1, 0, 0, 0), month(1, 6, 0, 0), month(1, 1, -1, 0), month(1, 1, 7, 0),
		julian(1, maxTime+1), julian(1, -maxTime-1), zero(0, maxTime+1), month(3, 2, 0, -maxTime-1),
		{Kind: api.DayJulian, Day: 1, Month: 1}, {Kind: api.DayZero, Week: 1}, {Kind: api.DayZero, Weekday: 1}, {Kind: api.DayMonth, Day: 1, Month: 1, Week: 1},
	} {
		with(d, false)
	}
}

// P9.1: without daylight saving time its fields are zero.
func TestValidUnused(t *testing.T) {
	r := eastern()
	r.HasDst = false
	checkValid(t, r, false)
	r = standard("EST", -18000)
	checkValid(t, r, true)
	r.HasDst = true
	checkValid(t, r, false)
	checkValid(t, api.Rule{}, false)
	checkValid(t, api.Rule{HasDst: true}, false)
	for _, set := range []func(r *api.Rule){
		func(r *api.Rule) { r.Dst = "EDT" },
		func(r *api.Rule) { r.Dst = "x" },
		func(r *api.Rule) { r.DstOffset = -14400 },
		func(r *api.Rule) { r.DstOffset = 1 },
		func(r *api.Rule) { r.Start = month(3, 2, 0, 7200) },
		func(r *api.Rule) { r.Start.Kind = api.DayZero },
		func(r *api.Rule) { r.Start.Day = 1 },
		func(r *api.Rule) { r.Start.Month = 1 },
		func(r *api.Rule) { r.Start.Week = 1 },
		func(r *api.Rule) { r.Start.Weekday = 1 },
		func(r *api.Rule) { r.Start.Time = 1 },
		func(r *api.Rule) { r.End = month(3, 2, 0, 7200) },
		func(r *api.Rule) { r.End.Kind = api.DayZero },
		func(r *api.Rule) { r.End.Day = 1 },
		func(r *api.Rule) { r.End.Month = 1 },
		func(r *api.Rule) { r.End.Week = 1 },
		func(r *api.Rule) { r.End.Weekday = 1 },
		func(r *api.Rule) { r.End.Time = -1 },
	} {
		r := standard("EST", -18000)
		set(&r)
		checkValid(t, r, false)
	}
}

// P9.3: every parsed rule is valid; checkParse asks that of the rules of the
// other tests, too.
func TestParsedValid(t *testing.T) {
	for _, std := range []string{"-24:59:59", "-24", "-23:59:59", "0", "24:59:59"} {
		for _, dst := range []string{"", "-24:59:59", "0", "24:59:59", "25"} {
			for _, day := range []string{"J1/-167:59:59", "J365", "0/0", "365/167:59:59", "M1.1.0", "M12.5.6/24", "J0", "366"} {
				checkExpected(t, "AAA"+std+"BBB"+dst+","+day+",J60")
				checkExpected(t, "AAA"+std+"BBB"+dst+",J60,"+day)
			}
		}
	}
}
