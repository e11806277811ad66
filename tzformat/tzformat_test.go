package tzformat_test

import (
	"fmt"
	"math"
	"strings"
	"testing"
	"unsafe"

	"zoneinfo/api"
	"zoneinfo/posixtz"
	"zoneinfo/tzformat"
)

const (
	// maxOffset is 24:59:59.
	maxOffset = 89999
	// maxTime is 167:59:59.
	maxTime = 604799
	// maxName is the greatest length of a designation.
	maxName = 255
	letters = "ABCDEFGHIJKLMNOPQRSTUVWXYZabcdefghijklmnopqrstuvwxyz"
)

func julian(day, time int) api.RuleDay {
	return api.RuleDay{Kind: api.DayJulian, Day: day, Time: time}
}

func zero(day, time int) api.RuleDay {
	return api.RuleDay{Kind: api.DayZero, Day: day, Time: time}
}

func month(month, week, weekday, time int) api.RuleDay {
	return api.RuleDay{Kind: api.DayMonth, Month: month, Week: week, Weekday: weekday, Time: time}
}

func standard(std string, offset int) api.Rule { return api.Rule{Std: std, StdOffset: offset} }

func daylight(std string, stdOffset int, dst string, dstOffset int, start, end api.RuleDay) api.Rule {
	return api.Rule{Std: std, StdOffset: stdOffset, HasDst: true, Dst: dst, DstOffset: dstOffset, Start: start, End: end}
}

// eastern is EST5EDT,M3.2.0,M11.1.0.
func eastern() api.Rule {
	return daylight("EST", -18000, "EDT", -14400, month(3, 2, 0, 7200), month(11, 1, 0, 7200))
}

// withDays is eastern with another start and end.
func withDays(start, end api.RuleDay) api.Rule {
	return daylight("EST", -18000, "EDT", -14400, start, end)
}

// expectedDuration is the canonical form of a duration by format strings, which
// the program may not use.
func expectedDuration(sec int) string {
	sign := ""
	if sec < 0 {
		sign, sec = "-", -sec
	}
	s := fmt.Sprintf("%d:%02d:%02d", sec/3600, sec/60%60, sec%60)
	return sign + strings.TrimSuffix(strings.TrimSuffix(s, ":00"), ":00")
}

func expectedName(name string) string {
	if strings.Trim(name, letters) == "" {
		return name
	}
	return "<" + name + ">"
}

func expectedDay(d api.RuleDay) string {
	s := map[int]string{
		api.DayJulian: fmt.Sprintf("J%d", d.Day),
		api.DayZero:   fmt.Sprintf("%d", d.Day),
		api.DayMonth:  fmt.Sprintf("M%d.%d.%d", d.Month, d.Week, d.Weekday),
	}[d.Kind]
	if d.Time == 7200 {
		return s
	}
	return s + "/" + expectedDuration(d.Time)
}

func expectedForm(r api.Rule) string {
	s := expectedName(r.Std) + expectedDuration(-r.StdOffset)
	if !r.HasDst {
		return s
	}
	s += expectedName(r.Dst)
	if r.DstOffset-r.StdOffset != 3600 {
		s += expectedDuration(-r.DstOffset)
	}
	return s + "," + expectedDay(r.Start) + "," + expectedDay(r.End)
}

// checkFormat holds the canonical form of a valid rule against want, and parses
// it back.
func checkFormat(t *testing.T, r api.Rule, want string) {
	t.Helper()
	if !posixtz.Valid(r) {
		t.Fatalf("%+v is not valid", r)
	}
	form := tzformat.Format(r)
	if form != want {
		t.Errorf("Format(%+v) = %q, want %q", r, form, want)
	}
	if back, why, at := posixtz.Parse(form); back != r || why != api.OK {
		t.Errorf("Parse(%q) = %+v, %d, %d, want %+v", form, back, why, at, r)
	}
	checkCanonical(t, form, form)
}

func checkDay(t *testing.T, d api.RuleDay, want string) {
	t.Helper()
	form := tzformat.Day(d)
	if form != want {
		t.Errorf("Day(%+v) = %q, want %q", d, form, want)
	}
	if back, size, ok := posixtz.Day(form); back != d || size != len(form) || !ok {
		t.Errorf("posixtz.Day(%q) = %+v, %d, %v, want %+v", form, back, size, ok, d)
	}
	r := eastern()
	checkFormat(t, withDays(d, r.End), "EST5EDT,"+want+",M11.1.0")
	checkFormat(t, withDays(r.Start, d), "EST5EDT,M3.2.0,"+want)
}

func checkCanonical(t *testing.T, s, want string) {
	t.Helper()
	if form, ok := tzformat.Canonical(s); form != want || !ok {
		t.Errorf("Canonical(%q) = %q, %v, want %q, true", s, form, ok, want)
	}
}

func checkNone(t *testing.T, s string) {
	t.Helper()
	if form, ok := tzformat.Canonical(s); form != "" || ok {
		t.Errorf("Canonical(%q) = %q, %v, want \"\", false", s, form, ok)
	}
}

// checkExpected holds Canonical against the parser of layer 9 and the form by
// format strings.
func checkExpected(t *testing.T, s string) {
	t.Helper()
	r, why, _ := posixtz.Parse(s)
	if why != api.OK {
		checkNone(t, s)
		return
	}
	checkCanonical(t, s, expectedForm(r))
	checkFormat(t, r, expectedForm(r))
}

func checkExtended(t *testing.T, r api.Rule, want bool) {
	t.Helper()
	if got := tzformat.Extended(r); got != want {
		t.Errorf("Extended(%+v) = %v, want %v", r, got, want)
	}
}

// P10.1, P10.2: the examples of the chapter and of the document.
func TestExamples(t *testing.T) {
	checkCanonical(t, "EST+5:00EDT4,M03.2.0/02,M11.1.0", "EST5EDT,M3.2.0,M11.1.0")
	checkFormat(t, eastern(), "EST5EDT,M3.2.0,M11.1.0")
	checkExtended(t, eastern(), false)
	checkFormat(t, standard("UTC", 0), "UTC0")
	checkFormat(t, standard("+03", 10800), "<+03>-3")
	checkFormat(t, daylight("NZST", 43200, "NZDT", 46800, month(9, 5, 0, 7200), month(4, 1, 0, 10800)), "NZST-12NZDT,M9.5.0,M4.1.0/3")
	r := withDays(zero(0, 0), julian(365, 90000))
	checkFormat(t, r, "EST5EDT,0/0,J365/25")
	checkExtended(t, r, true)
}

// P10.1: rules without daylight saving time. The offset of the text is positive
// west of Greenwich.
func TestFormatStandard(t *testing.T) {
	for want, r := range map[string]api.Rule{
		"EST5":           standard("EST", -18000),
		"JST-9":          standard("JST", 32400),
		"HST10":          standard("HST", -36000),
		"NST3:30":        standard("NST", -12600),
		"IST-5:30":       standard("IST", 19800),
		"LMT4:56:02":     standard("LMT", -17762),
		"LMT-0:01:15":    standard("LMT", 75),
		"ABC0":           standard("ABC", 0),
		"abcdefghij1":    standard("abcdefghij", -3600),
		"<-00>0":         standard("-00", 0),
		"<-03>3":         standard("-03", -10800),
		"<+1245>-12:45":  standard("+1245", 45900),
		"<EST5EDT>12:34": standard("EST5EDT", -45240),
		"<a+1>-24":       standard("a+1", 86400),
	} {
		checkFormat(t, r, want)
		checkExtended(t, r, false)
	}
}

// P10.1: a designation of letters only stands alone, every other one is quoted,
// that of standard time as well as that of daylight saving time.
func TestFormatNames(t *testing.T) {
	bare := []string{"EST", "AAA", "zzz", "aZA", "CEST", letters, strings.Repeat("A", maxName)}
	quoted := []string{"+03", "-03", "000", "+-+", "EST5", "5EST", "E+T", "ES-", "A0Z", strings.Repeat("9", maxName), "-" + strings.Repeat("z", maxName-1)}
	forms := map[string]string{}
	for _, name := range bare {
		forms[name] = name
	}
	for _, name := range quoted {
		forms[name] = "<" + name + ">"
	}
	r := eastern()
	for std, stdForm := range forms {
		checkFormat(t, standard(std, 0), stdForm+"0")
		for dst, dstForm := range forms {
			checkFormat(t, daylight(std, 0, dst, 3600, r.Start, r.End), stdForm+"0"+dstForm+",M3.2.0,M11.1.0")
			checkFormat(t, daylight(std, -1, dst, 1, r.Start, r.End), stdForm+"0:00:01"+dstForm+"-0:00:01,M3.2.0,M11.1.0")
		}
	}
}

// offsets maps UT offsets to what is written for them.
func offsets() map[int]string {
	return map[int]string{
		0: "0", 1: "-0:00:01", -1: "0:00:01", 59: "-0:00:59", -59: "0:00:59", 60: "-0:01", -60: "0:01", 61: "-0:01:01", -61: "0:01:01",
		600: "-0:10", -600: "0:10", 3599: "-0:59:59", -3599: "0:59:59", 3600: "-1", -3600: "1", 3601: "-1:00:01", -3601: "1:00:01", 3660: "-1:01", -3660: "1:01",
		18000: "-5", -18000: "5", 35999: "-9:59:59", -35999: "9:59:59", 36000: "-10", -36000: "10", 45240: "-12:34", -45240: "12:34", 45296: "-12:34:56", -45296: "12:34:56",
		86399: "-23:59:59", -86399: "23:59:59", 86400: "-24", -86400: "24", 86401: "-24:00:01", -86401: "24:00:01", 89940: "-24:59", -89940: "24:59",
		maxOffset - 1: "-24:59:58", 1 - maxOffset: "24:59:58", maxOffset: "-24:59:59", -maxOffset: "24:59:59",
	}
}

// P10.1: offsets of hours, minutes and seconds, of either sign and of either
// time.
func TestFormatOffsets(t *testing.T) {
	r := eastern()
	for std, stdForm := range offsets() {
		checkFormat(t, standard("STD", std), "STD"+stdForm)
		for dst, dstForm := range offsets() {
			if dst == std+3600 {
				dstForm = ""
			}
			checkFormat(t, daylight("STD", std, "DST", dst, r.Start, r.End), "STD"+stdForm+"DST"+dstForm+",M3.2.0,M11.1.0")
		}
	}
}

// P10.1: the offset of daylight saving time is left out if it is one hour ahead
// of standard time, and only then.
func TestFormatDefault(t *testing.T) {
	r := eastern()
	for _, c := range []struct {
		std, dst int
		want     string
	}{
		{-18000, -14400, "STD5DST"},
		{-18000, -14399, "STD5DST3:59:59"},
		{-18000, -14401, "STD5DST4:00:01"},
		{-18000, -18000, "STD5DST5"},
		{-18000, -21600, "STD5DST6"},
		{-18000, -10800, "STD5DST3"},
		{-18000, 14400, "STD5DST-4"},
		{-18000, 0, "STD5DST0"},
		{0, 3600, "STD0DST"},
		{0, 3599, "STD0DST-0:59:59"},
		{0, 3601, "STD0DST-1:00:01"},
		{0, 0, "STD0DST0"},
		{0, -3600, "STD0DST1"},
		{-3600, 0, "STD1DST"},
		{-3600, 1, "STD1DST-0:00:01"},
		{-3600, -1, "STD1DST0:00:01"},
		{3600, 0, "STD-1DST0"},
		{3600, 3600, "STD-1DST-1"},
		{3600, 7200, "STD-1DST"},
		{37800, 39600, "STD-10:30DST-11"},
		{maxOffset - 3600, maxOffset, "STD-23:59:59DST"},
		{maxOffset - 3600, maxOffset - 1, "STD-23:59:59DST-24:59:58"},
		{maxOffset - 3599, maxOffset, "STD-24DST-24:59:59"},
		{maxOffset, maxOffset, "STD-24:59:59DST-24:59:59"},
		{-maxOffset, 3600 - maxOffset, "STD24:59:59DST"},
		{-maxOffset, 3599 - maxOffset, "STD24:59:59DST24"},
		{-maxOffset, 3601 - maxOffset, "STD24:59:59DST23:59:58"},
		{-maxOffset, -maxOffset, "STD24:59:59DST24:59:59"},
		{-maxOffset, maxOffset, "STD24:59:59DST-24:59:59"},
		{maxOffset, -maxOffset, "STD-24:59:59DST24:59:59"},
	} {
		checkFormat(t, daylight("STD", c.std, "DST", c.dst, r.Start, r.End), c.want+",M3.2.0,M11.1.0")
	}
	for std := -maxOffset; std+3600 <= maxOffset; std += 977 {
		form := tzformat.Format(daylight("STD", std, "DST", std+3600, r.Start, r.End))
		if want := "STD" + expectedDuration(-std) + "DST,M3.2.0,M11.1.0"; form != want {
			t.Errorf("offset %d: %q, want %q", std, form, want)
		}
	}
}

// P10.1: rule days of all three forms, with each of their numbers at its bounds
// and with every number in between.
func TestDay(t *testing.T) {
	for want, d := range map[string]api.RuleDay{
		"J1": julian(1, 7200), "J9": julian(9, 7200), "J10": julian(10, 7200), "J60": julian(60, 7200), "J100": julian(100, 7200), "J365": julian(365, 7200),
		"0": zero(0, 7200), "1": zero(1, 7200), "10": zero(10, 7200), "59": zero(59, 7200), "100": zero(100, 7200), "364": zero(364, 7200), "365": zero(365, 7200),
		"M1.1.0": month(1, 1, 0, 7200), "M12.1.0": month(12, 1, 0, 7200), "M1.5.0": month(1, 5, 0, 7200), "M1.1.6": month(1, 1, 6, 7200), "M12.5.6": month(12, 5, 6, 7200),
		"M3.2.0": month(3, 2, 0, 7200), "M9.5.0": month(9, 5, 0, 7200), "M10.4.3": month(10, 4, 3, 7200),
	} {
		checkDay(t, d, want)
	}
	for n := range 366 {
		checkDay(t, zero(n, 7200), fmt.Sprint(n))
		if n > 0 {
			checkDay(t, julian(n, 7200), fmt.Sprint("J", n))
		}
	}
	for m := 1; m <= 12; m++ {
		for w := 1; w <= 5; w++ {
			for d := range 7 {
				checkDay(t, month(m, w, d, 7200), fmt.Sprintf("M%d.%d.%d", m, w, d))
			}
		}
	}
}

// times maps the times of rule days to what is written for them.
func times() map[int]string {
	return map[int]string{
		7200: "", 7199: "/1:59:59", 7201: "/2:00:01", -7200: "/-2", -7199: "/-1:59:59", -7201: "/-2:00:01", 7140: "/1:59", 7260: "/2:01",
		0: "/0", 1: "/0:00:01", -1: "/-0:00:01", 60: "/0:01", -60: "/-0:01", 3600: "/1", -3600: "/-1", 10800: "/3", 14400: "/4", 720: "/0:12", 72000: "/20",
		-5400: "/-1:30", 86340: "/23:59", 86399: "/23:59:59", 86400: "/24", 86401: "/24:00:01", 90000: "/25", -86399: "/-23:59:59", -86400: "/-24", -86401: "/-24:00:01",
		360000: "/100", 601200: "/167", -601200: "/-167", maxTime - 1: "/167:59:58", maxTime: "/167:59:59", 1 - maxTime: "/-167:59:58", -maxTime: "/-167:59:59",
	}
}

// P10.1: a time is left out if it is 02:00:00, and only then.
func TestDayTime(t *testing.T) {
	for time, want := range times() {
		checkDay(t, julian(60, time), "J60"+want)
		checkDay(t, julian(1, time), "J1"+want)
		checkDay(t, zero(0, time), "0"+want)
		checkDay(t, zero(365, time), "365"+want)
		checkDay(t, month(3, 2, 0, time), "M3.2.0"+want)
		checkDay(t, month(12, 5, 6, time), "M12.5.6"+want)
	}
	for time := -maxTime; time <= maxTime; time += 611 {
		d := month(10, 5, 0, time)
		if got, want := tzformat.Day(d), expectedDay(d); got != want {
			t.Errorf("Day(%+v) = %q, want %q", d, got, want)
		}
	}
}

// P10.1: start and end, each with its own form and time.
func TestFormatDays(t *testing.T) {
	days := map[string]api.RuleDay{
		"J60": julian(60, 7200), "J365/-1": julian(365, -3600), "0": zero(0, 7200), "0/0": zero(0, 0), "365/25": zero(365, 90000), "M1.1.0": month(1, 1, 0, 7200),
		"M12.5.6/-167:59:59": month(12, 5, 6, -maxTime), "M3.2.0/1:02:03": month(3, 2, 0, 3723), "M3.2.0/24": month(3, 2, 0, 86400),
	}
	for start, d := range days {
		for end, e := range days {
			checkFormat(t, withDays(d, e), "EST5EDT,"+start+","+end)
			checkFormat(t, daylight("+03", 10800, "+05", 18000, d, e), "<+03>-3<+05>-5,"+start+","+end)
		}
	}
}

// P10.1: a rule is extended if the time of its start or of its end lies outside
// of 0 to 86400 seconds.
func TestExtended(t *testing.T) {
	inside := []int{0, 1, 7200, 43200, 86399, 86400}
	outside := []int{-maxTime, -86401, -86400, -3600, -2, -1, 86401, 86402, 90000, 172800, maxTime}
	pair := func(start, end int, want bool) {
		t.Helper()
		checkExtended(t, withDays(month(3, 2, 0, start), month(11, 1, 0, end)), want)
		checkExtended(t, withDays(zero(0, start), julian(365, end)), want)
		checkExtended(t, daylight("-02", -7200, "-01", -3600, julian(1, start), zero(365, end)), want)
	}
	for _, start := range inside {
		for _, end := range inside {
			pair(start, end, false)
		}
		for _, end := range outside {
			pair(start, end, true)
			pair(end, start, true)
		}
	}
	for _, start := range outside {
		for _, end := range outside {
			pair(start, end, true)
		}
	}
}

// P10.1: only the times count, neither the offsets nor the days; a rule without
// daylight saving time has none.
func TestExtendedOffsets(t *testing.T) {
	for offset := range offsets() {
		checkExtended(t, standard("STD", offset), false)
		for dst := range offsets() {
			checkExtended(t, daylight("STD", offset, "DST", dst, month(3, 2, 0, 0), month(11, 1, 0, 86400)), false)
			checkExtended(t, daylight("STD", offset, "DST", dst, month(3, 2, 0, -1), month(11, 1, 0, 86400)), true)
			checkExtended(t, daylight("STD", offset, "DST", dst, month(3, 2, 0, 0), month(11, 1, 0, 86401)), true)
		}
	}
	for n := range 366 {
		checkExtended(t, withDays(zero(n, 0), julian(max(n, 1), 86400)), false)
		checkExtended(t, withDays(zero(n, -1), julian(max(n, 1), 0)), true)
	}
}

// spellings maps canonical forms to strings that describe the same rule.
func spellings() map[string][]string {
	return map[string][]string{
		"UTC0":     {"UTC0", "<UTC>0", "UTC-0", "UTC+0", "UTC00", "UTC000", "UTC0:00", "UTC-00:00:00", "<UTC>+000:00:00"},
		"EST5":     {"EST05", "EST005", "EST+5", "EST+005", "EST5:00", "EST5:00:00", "<EST>5", "<EST>+05:00:00"},
		"<+03>-3":  {"<+03>-03", "<+03>-003", "<+03>-3:00", "<+03>-3:00:00"},
		"IST-5:30": {"IST-05:30", "IST-005:30:00", "IST-5:30:00", "<IST>-5:30"},
		"EST5EDT,M3.2.0,M11.1.0": {
			"EST+5EDT,M3.2.0,M11.1.0", "EST05EDT,M3.2.0,M11.1.0", "EST5EDT4,M3.2.0,M11.1.0", "EST5EDT+4,M3.2.0,M11.1.0", "EST5EDT04:00:00,M3.2.0,M11.1.0",
			"EST5EDT,M03.2.0,M11.1.0", "EST5EDT,M3.02.0,M11.1.0", "EST5EDT,M3.2.00,M11.1.0", "EST5EDT,M003.002.000,M011.001.000", "<EST>5EDT,M3.2.0,M11.1.0",
			"EST5<EDT>,M3.2.0,M11.1.0", "<EST>5<EDT>4,M3.2.0,M11.1.0", "EST5EDT,M3.2.0/2,M11.1.0", "EST5EDT,M3.2.0,M11.1.0/2", "EST5EDT,M3.2.0/+2,M11.1.0/02:00",
			"EST5EDT,M3.2.0/002:00:00,M11.1.0/2:00:00", "EST+5:00EDT4,M03.2.0/02,M11.1.0",
		},
		"EST5EDT5,0/0,J365/25":      {"EST5EDT+5,0/0,J365/25", "EST5EDT5:00,000/00,J365/025", "<EST>5<EDT>05,0/-0,J365/+25:00", "EST5EDT5,00/+0,J365/25:00:00"},
		"ABC0DEF,0,365":             {"ABC0DEF-1,0,365", "ABC-0DEF-01:00,00/2,365/02", "ABC+0DEF,000,365/2:00"},
		"ABC-1DEF0,J1/-1,J60/3:30":  {"ABC-1DEF-0,J1/-1,J60/3:30", "ABC-01DEF00:00,J01/-01,J060/03:30", "ABC-1:00DEF+0,J001/-1:00,J060/+3:30:00"},
		"<A12>-1<B12>,1/-0:00:01,0": {"<A12>-1:00<B12>-2,01/-0:00:01,0/2", "<A12>-01<B12>-2:00:00,001/-00:00:01,00"},
	}
}

// P10.2: strings that describe one rule in different ways have its canonical
// form, and that is its own.
func TestCanonical(t *testing.T) {
	for want, list := range spellings() {
		checkCanonical(t, want, want)
		for _, s := range list {
			checkCanonical(t, s, want)
			checkExpected(t, s)
		}
	}
}

// P10.2: strings that are no rules, or that only begin or end with one.
func TestCanonicalNone(t *testing.T) {
	for _, s := range []string{
		"", " ", "\n", "\x00", "0", "5", ",", "EST", "<EST>", "E5", "ES5", "<ES>5", "<A1>0<B2>0,J1,J1", "<EST5", "EST>5", "EST25", "EST-25", "EST25:00", "EST168", "EST0005", "ESTEDT", "EST5ED", "EST5EDT",
		"EST5EDT4", "EST5EDT,", "EST5EDT,M3.2.0", "EST5EDT,M3.2.0,", "EST5EDT,,", "EST5,M3.2.0,M11.1.0", "EST5EDT25,M3.2.0,M11.1.0", "EST5EDT;M3.2.0;M11.1.0", "EST-24:00:01EDT,M3.2.0,M11.1.0",
		"EST5EDT,J0,J1", "EST5EDT,J366,J1", "EST5EDT,366,J1", "EST5EDT,M0.1.0,J1", "EST5EDT,M13.1.0,J1", "EST5EDT,M1.0.0,J1", "EST5EDT,M1.6.0,J1", "EST5EDT,M1.1.7,J1", "EST5EDT,J1/,J1",
		"EST5EDT,J1/168,J1", "EST5EDT,J1,J1/-168", "EST5:60", "EST5:30:60", "EST5:3",
		" UTC0", "UTC0 ", "UTC0\n", "\nUTC0", "UTC0\x00", "UTC0,", "UTC0UTC0", "EST5EDT,M3.2.0,M11.1.0 ", "EST5EDT,M3.2.0,M11.1.0,", "EST5EDT,M3.2.0,M11.1.0\n", "é5", "ES\xff5",
	} {
		checkNone(t, s)
	}
}

// P10.2, P10.3: all strings that differ from a rule by one byte, and all parts
// of rules.
func TestCanonicalBytes(t *testing.T) {
	for _, s := range []string{"UTC0", "<+03>-3", "EST5EDT,M3.2.0,M11.1.0", "EST+5:00EDT4,M03.2.0/02,M11.1.0", "<-a1>-12:34:56<+13>-24:59:59,J365/-1:02:03,365/167:59:59"} {
		checkExpected(t, s)
		for i := range s {
			checkExpected(t, s[:i])
			checkExpected(t, s[i:])
			checkExpected(t, s[:i]+s[i+1:])
			for c := range 256 {
				b := string([]byte{byte(c)})
				checkExpected(t, s[:i]+b+s[i+1:])
				checkExpected(t, s[:i]+b+s[i:])
			}
		}
	}
}

// manyRules puts rules together from values of all kinds.
func manyRules() []api.Rule {
	names := []string{"EST", "EDT", "EST5", "+03", "-03", "est"}
	utcOffsets := []int{0, 1, -1, 3600, -3600, 18000, -18000, -14400, -14399, maxOffset, -maxOffset}
	days := []api.RuleDay{
		julian(1, 7200), julian(1, 0), julian(11, 7200), julian(365, 7200), zero(0, 7200), zero(1, 7200), zero(1, -7200), zero(11, 90000),
		month(1, 1, 1, 7200), month(11, 1, 1, 7200), month(1, 1, 0, 7201), month(12, 5, 6, 7199), month(3, 2, 0, maxTime), month(3, 2, 0, -maxTime),
	}
	var rules []api.Rule
	for _, std := range names {
		for _, stdOffset := range utcOffsets {
			rules = append(rules, standard(std, stdOffset))
			for i, dstOffset := range utcOffsets {
				for k, start := range days {
					dst, end := names[(i+k)%len(names)], days[(3*k+i)%len(days)]
					rules = append(rules, daylight(std, stdOffset, dst, dstOffset, start, end))
				}
			}
		}
	}
	return rules
}

// P10.3: every canonical form is parsed back to its rule, and different rules
// have different forms.
func TestFormsDiffer(t *testing.T) {
	seen := map[string]api.Rule{}
	for _, r := range manyRules() {
		form := tzformat.Format(r)
		checkFormat(t, r, expectedForm(r))
		if other, ok := seen[form]; ok && other != r {
			t.Errorf("%+v and %+v have the form %q", r, other, form)
		}
		seen[form] = r
	}
	if len(seen) != len(manyRules()) {
		t.Errorf("%d forms of %d rules", len(seen), len(manyRules()))
	}
}

// P10.3: rules that differ in one field only have different forms.
func TestFieldsDiffer(t *testing.T) {
	r := withDays(julian(60, 3600), month(11, 1, 0, 0))
	form := tzformat.Format(r)
	for i, set := range []func(r *api.Rule){
		func(r *api.Rule) { r.Std = "ESt" },
		func(r *api.Rule) { r.StdOffset++ },
		func(r *api.Rule) { *r = standard(r.Std, r.StdOffset) },
		func(r *api.Rule) { r.Dst = "EDt" },
		func(r *api.Rule) { r.DstOffset++ },
		func(r *api.Rule) { r.DstOffset-- },
		func(r *api.Rule) { r.Start.Kind = api.DayZero },
		func(r *api.Rule) { r.Start.Day++ },
		func(r *api.Rule) { r.Start.Time++ },
		func(r *api.Rule) { r.Start.Time = 7200 },
		func(r *api.Rule) { r.End.Month++ },
		func(r *api.Rule) { r.End.Week++ },
		func(r *api.Rule) { r.End.Weekday++ },
		func(r *api.Rule) { r.End.Time++ },
		func(r *api.Rule) { r.End.Time = 7200 },
		func(r *api.Rule) { r.Start, r.End = r.End, r.Start },
		func(r *api.Rule) { r.Std, r.Dst = r.Dst, r.Std },
		func(r *api.Rule) { r.StdOffset, r.DstOffset = r.DstOffset, r.StdOffset },
	} {
		changed := r
		set(&changed)
		if got := tzformat.Format(changed); got == form {
			t.Errorf("change %d: %+v and %+v have the form %q", i, r, changed, form)
		}
		checkFormat(t, changed, expectedForm(changed))
	}
}

// P10.3: two strings have the same canonical form exactly if they describe the
// same rule.
func TestSameForm(t *testing.T) {
	var list []string
	for form, spelled := range spellings() {
		list = append(append(list, form), spelled...)
	}
	for _, a := range list {
		ruleA, _, _ := posixtz.Parse(a)
		formA, _ := tzformat.Canonical(a)
		for _, b := range list {
			ruleB, _, _ := posixtz.Parse(b)
			formB, _ := tzformat.Canonical(b)
			if (ruleA == ruleB) != (formA == formB) {
				t.Errorf("%q has the form %q, %q has the form %q", a, formA, b, formB)
			}
		}
	}
}

// shares reports whether two strings lie in the same memory.
func shares(a, b string) bool {
	first, other := uintptr(unsafe.Pointer(unsafe.StringData(a))), uintptr(unsafe.Pointer(unsafe.StringData(b)))
	return first < other+uintptr(len(b)) && other < first+uintptr(len(a))
}

// Results do not share memory with arguments: DOC.md, rule 5.
func TestResultsAreNew(t *testing.T) {
	for _, s := range []string{"UTC0", "<+03>-3", "EST5EDT,M3.2.0,M11.1.0", "EST+5:00EDT4,M03.2.0/02,M11.1.0"} {
		if form, ok := tzformat.Canonical(s); !ok || shares(form, s) {
			t.Errorf("Canonical(%q) = %q, %v shares memory", s, form, ok)
		}
	}
	for _, r := range manyRules() {
		if form := tzformat.Format(r); shares(form, r.Std) || shares(form, r.Dst) {
			t.Errorf("Format(%+v) = %q shares memory", r, form)
		}
	}
}

// No call panics, whatever it is given: LANGUAGE.md, rule 4.
func TestUnspecified(t *testing.T) {
	extremes := []int{math.MinInt, math.MinInt + 1, -maxTime - 1, -1, 0, 4, 7, 1000, maxTime + 1, math.MaxInt}
	for _, n := range extremes {
		for kind := -1; kind <= 5; kind++ {
			d := api.RuleDay{Kind: kind, Day: n, Month: n, Week: n, Weekday: n, Time: n}
			tzformat.Day(d)
			for _, name := range []string{"", "A", "<", "\xff", strings.Repeat("A", maxName+1)} {
				for _, hasDst := range []bool{false, true} {
					r := api.Rule{Std: name, StdOffset: n, HasDst: hasDst, Dst: name, DstOffset: n, Start: d, End: d}
					tzformat.Format(r)
					tzformat.Extended(r)
				}
			}
		}
	}
}
