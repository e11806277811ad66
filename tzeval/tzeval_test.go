package tzeval_test

import (
	"cmp"
	"maps"
	"math"
	"slices"
	"testing"
	"time"
	"unsafe"

	"zoneinfo/api"
	"zoneinfo/posixtz"
	"zoneinfo/tzeval"
)

const (
	// farYear is the last year of the domain of Changes, -farYear the first one.
	farYear = 1 << 39
	// The calendar repeats after 400 years, which have cycleDays.
	cycleDays = 146097
	cycle     = cycleDays * 86400
	// modelStart is 2000-01-01 00:00:00, where a cycle begins.
	modelStart = 946684800
)

func eastern() string { return "EST5EDT,M3.2.0,M11.1.0" }

// standardRules have no daylight saving time.
func standardRules() []string {
	return []string{"UTC0", "<+03>-3", "<-00>0", "ABC24:59:59", "ABC-24:59:59"}
}

// permanentRules have nothing else: every change to standard time has the
// instant of one to daylight saving time, of the next year or of the same one.
func permanentRules() []string {
	return []string{"EST5EDT,0/0,J365/25", "ABC3DEF4,0/0,J365/23", "ABC0DEF,J1/0,J365/25", "ABC0DEF,M1.1.0/-167,M12.5.0/2", "ABC0DEF,J100/0,J100/1", "ABC5DEF5,M3.2.0,M3.2.0", "ABC0ABC0,0,0"}
}

// changingRules have both in turn.
func changingRules() []string {
	return []string{
		eastern(), "CET-1CEST,M3.5.0,M10.5.0/3", "NZST-12NZDT,M9.5.0,M4.1.0/3", "IST-1GMT0,M10.5.0,M3.5.0/1", "<-02>2<-01>,M3.5.0/-1,M10.5.0/0", "ABC0DEF,J60,J300", "ABC0DEF,59,300",
		// Both offsets or both names are equal.
		"ABC5DEF5,M3.2.0,M11.1.0", "ABC5ABC,M3.2.0,M11.1.0", "ABC5ABC5,M3.2.0,M11.1.0",
		// One of the two states is short.
		"EST5EDT,0/0,J365/24", "EST5EDT,0/0,J365/26", "ABC0DEF0,J1/0,J1/-0:00:01", "ABC0DEF0,J1/23:59:59,J1/24",
		// The changes coincide in some years.
		"ABC0DEF,J60/0,59/1", "ABC0DEF,59/0,J60/1", "ABC0DEF,0/0,365/1", "ABC0DEF,365/0,0/1", "ABC0DEF,M2.5.0/0,M2.4.0/1", "ABC0DEF,M2.4.0/0,M2.5.0/1", "ABC0DEF,J100/0,M4.2.0/1", "ABC0DEF,M4.2.0/0,J100/1",
		// The changes lie in the year before or after.
		"ABC24:59:59DEF-24:59:59,365/167:59:59,J1/-167:59:59", "ABC-24:59:59DEF24:59:59,J1/-167:59:59,365/167:59:59",
		"ABC24:59:59DEF24:59:59,365/167:59:59,365/100", "ABC24:59:59DEF24:59:59,365/100,365/167:59:59",
		"ABC-24:59:59DEF-24:59:59,J1/-167:59:59,J1/-100", "ABC-24:59:59DEF-24:59:59,J1/-100,J1/-167:59:59",
		"ABC0DEF,M1.1.0/-150,M12.5.6/167:59:59", "ABC0DEF,M12.5.6/167:59:59,M1.1.0/-150",
	}
}

func allRules() []string {
	return slices.Concat(standardRules(), permanentRules(), changingRules())
}

// rule parses a rule by layer 9.
func rule(t *testing.T, s string) api.Rule {
	t.Helper()
	r, why, at := posixtz.Parse(s)
	if why != api.OK {
		t.Fatalf("Parse(%q): error %d at %d", s, why, at)
	}
	return r
}

func resultOf(r api.Rule, dst bool) api.Result {
	if dst {
		return api.Result{Defined: true, Offset: r.DstOffset, Dst: true, Name: r.Dst}
	}
	return api.Result{Defined: true, Offset: r.StdOffset, Name: r.Std}
}

// dayIn finds a rule day by the library's package time, which the program may
// not use.
func dayIn(d api.RuleDay, year int) time.Time {
	date := func(m time.Month, day int) time.Time { return time.Date(year, m, day, 0, 0, 0, 0, time.UTC) }
	switch d.Kind {
	case api.DayJulian:
		common := time.Date(2023, 1, d.Day, 0, 0, 0, 0, time.UTC)
		return date(common.Month(), common.Day())
	case api.DayZero:
		return date(1, 1+d.Day)
	}
	var found []time.Time
	for x := date(time.Month(d.Month), 1); int(x.Month()) == d.Month; x = x.AddDate(0, 0, 1) {
		if int(x.Weekday()) == d.Weekday {
			found = append(found, x)
		}
	}
	return found[min(d.Week, len(found))-1]
}

// expectedChanges asks for the same year of the cycle that begins in 2000.
func expectedChanges(r api.Rule, year int) (api.Instant, api.Instant) {
	place := (year%400 + 400) % 400
	change := func(d api.RuleDay, offset int) api.Instant {
		x := dayIn(d, 2000+place).Add(time.Duration(d.Time-offset) * time.Second)
		day := time.Date(x.Year(), x.Month(), x.Day(), 0, 0, 0, 0, time.UTC)
		return api.Instant{Day: int(day.Unix()/86400) + (year-place-2000)/400*cycleDays, Sec: int(x.Sub(day) / time.Second)}
	}
	return change(r.Start, r.StdOffset), change(r.End, r.DstOffset)
}

// model lists the changes of a rule with daylight saving time in the two cycles
// from 2000 on and in the years around them, in order, without repetitions, and
// the state from each of them on.
type model struct {
	rule  api.Rule
	times []int64
	dst   []bool
}

func modelOf(r api.Rule) model {
	states := map[int64]bool{}
	for year := 1996; r.HasDst && year < 2804; year++ {
		start := dayIn(r.Start, year).Unix() + int64(r.Start.Time-r.StdOffset)
		end := dayIn(r.End, year).Unix() + int64(r.End.Time-r.DstOffset)
		states[start], states[end] = true, states[end] || start == end
	}
	m := model{rule: r, times: slices.Sorted(maps.Keys(states))}
	for _, at := range m.times {
		m.dst = append(m.dst, states[at])
	}
	return m
}

// reduced returns the same second of the cycle that begins in 2000.
func reduced(at int64) int64 {
	return modelStart + ((at%cycle-modelStart)%cycle+cycle)%cycle
}

// latest returns the index of the latest change that is not after a time of the
// two cycles.
func (m model) latest(at int64) int {
	i, found := slices.BinarySearch(m.times, at)
	if found {
		return i
	}
	return i - 1
}

func (m model) at(at int64) api.Result {
	return resultOf(m.rule, m.rule.HasDst && m.dst[m.latest(reduced(at))])
}

func (m model) next(at int64) (int64, bool) {
	if !m.rule.HasDst {
		return 0, false
	}
	from := reduced(at)
	for i := m.latest(from) + 1; m.times[i]-from <= cycle; i++ {
		ahead := m.times[i] - from
		if at > 0 && ahead > math.MaxInt64-at {
			return 0, false
		}
		if m.dst[i] != m.dst[i-1] {
			return at + ahead, true
		}
	}
	return 0, false
}

// flips lists the times of the first cycle at which the state differs.
func (m model) flips() []int64 {
	var list []int64
	for i, at := range m.times {
		if modelStart <= at && at < modelStart+cycle && m.dst[i] != m.dst[i-1] {
			list = append(list, at)
		}
	}
	return list
}

func checkAt(t *testing.T, s string, at int64, want api.Result) {
	t.Helper()
	if got := tzeval.At(rule(t, s), at); got != want {
		t.Errorf("%s: At(%d) = %+v, want %+v", s, at, got, want)
	}
}

func checkNext(t *testing.T, s string, at, want int64, ok bool) {
	t.Helper()
	if got, gotOK := tzeval.Next(rule(t, s), at); got != want || gotOK != ok {
		t.Errorf("%s: Next(%d) = %d, %v, want %d, %v", s, at, got, gotOK, want, ok)
	}
}

func checkChanges(t *testing.T, s string, year int, start, end api.Instant) {
	t.Helper()
	if gotStart, gotEnd := tzeval.Changes(rule(t, s), year); gotStart != start || gotEnd != end {
		t.Errorf("%s: Changes(%d) = %+v, %+v, want %+v, %+v", s, year, gotStart, gotEnd, start, end)
	}
}

// checkModel holds At and Next against the model.
func checkModel(t *testing.T, s string, m model, at int64) {
	t.Helper()
	checkAt(t, s, at, m.at(at))
	want, ok := m.next(at)
	checkNext(t, s, at, want, ok)
}

// P11.1: instants are ordered by day, then by second, on both sides of day 0
// and outside of the range of 64-bit timestamps.
func TestCompare(t *testing.T) {
	var list []api.Instant
	for _, day := range []int{math.MinInt, -1 << 62, -200794188573516, -106751991167302, -106751991167301, -86400, -2, -1, 0, 1, 2, 86400, 106751991167300, 106751991167301, 200794187134833, 1 << 62, math.MaxInt} {
		for _, sec := range []int{0, 1, 2, 43200, 86398, 86399} {
			list = append(list, api.Instant{Day: day, Sec: sec})
		}
	}
	for i, a := range list {
		for k, b := range list {
			if got := tzeval.Compare(a, b); got != cmp.Compare(i, k) {
				t.Errorf("Compare(%+v, %+v) = %d, want %d", a, b, got, cmp.Compare(i, k))
			}
		}
	}
}

// P11.1: instants that were computed outside of the program: common and leap
// years, years before 0, both ends of the domain, days of all three forms, and
// times that reach into the day, the week or the year before or after.
func TestChangesKnown(t *testing.T) {
	late, early := "ABC24:59:59DEF-24:59:59,365/167:59:59,J1/-167:59:59", "ABC-24:59:59DEF24:59:59,J1/-167:59:59,365/167:59:59"
	for _, x := range []struct {
		rule                               string
		year                               int
		startDay, startSec, endDay, endSec int
	}{
		{eastern(), 2023, 19428, 25200, 19666, 21600},
		{eastern(), 2024, 19792, 25200, 20030, 21600},
		{eastern(), 1970, 66, 25200, 304, 21600},
		{eastern(), 1900, -25498, 25200, -25260, 21600},
		{eastern(), 2000, 11028, 25200, 11266, 21600},
		{eastern(), 0, -719457, 25200, -719219, 21600},
		{eastern(), -1, -719821, 25200, -719583, 21600},
		{eastern(), -400, -865554, 25200, -865316, 21600},
		{eastern(), -farYear, -200794188573444, 25200, -200794188573206, 21600},
		{eastern(), farYear, 200794187134530, 25200, 200794187134768, 21600},
		{"NZST-12NZDT,M9.5.0,M4.1.0/3", 2023, 19623, 50400, 19448, 50400},
		{"NZST-12NZDT,M9.5.0,M4.1.0/3", 2024, 19994, 50400, 19819, 50400},
		{"NZST-12NZDT,M9.5.0,M4.1.0/3", -farYear, -200794188573249, 50400, -200794188573424, 50400},
		{"NZST-12NZDT,M9.5.0,M4.1.0/3", farYear, 200794187134732, 50400, 200794187134550, 50400},
		{"CET-1CEST,M3.5.0,M10.5.0/3", 2024, 19813, 3600, 20023, 3600},
		{"CET-1CEST,M3.5.0,M10.5.0/3", 1, -719079, 3600, -718862, 3600},
		{"EST5EDT,0/0,J365/25", 2023, 19358, 18000, 19723, 18000},
		{"EST5EDT,0/0,J365/25", 2024, 19723, 18000, 20089, 18000},
		{"EST5EDT,0/0,J365/25", 0, -719528, 18000, -719162, 18000},
		{"EST5EDT,0/0,J365/25", -farYear, -200794188573516, 18000, -200794188573150, 18000},
		{"EST5EDT,0/0,J365/25", farYear, 200794187134460, 18000, 200794187134826, 18000},
		{"ABC0DEF,J60/0,59/1", 2023, 19417, 0, 19417, 0},
		{"ABC0DEF,J60/0,59/1", 2024, 19783, 0, 19782, 0},
		{"ABC0DEF,J60/0,59/1", 1900, -25508, 0, -25508, 0},
		{"ABC0DEF,J60/0,59/1", 2000, 11017, 0, 11016, 0},
		{"ABC0DEF,0/0,365/1", 2023, 19358, 0, 19723, 0},
		{"ABC0DEF,0/0,365/1", 2024, 19723, 0, 20088, 0},
		{"ABC0DEF,0/0,365/1", -1, -719893, 0, -719528, 0},
		{"ABC0DEF,0/0,365/1", 0, -719528, 0, -719163, 0},
		{late, 2023, 19731, 3598, 19349, 82802},
		{late, 2024, 20096, 3598, 19714, 82802},
		{late, -1, -719520, 3598, -719902, 82802},
		{late, 0, -719155, 3598, -719537, 82802},
		{late, -farYear, -200794188573143, 3598, -200794188573525, 82802},
		{late, farYear, 200794187134833, 3598, 200794187134451, 82802},
		{early, 2023, 19349, 82802, 19731, 3598},
		{early, 2024, 19714, 82802, 20096, 3598},
		{early, -1, -719902, 82802, -719520, 3598},
		{early, 0, -719537, 82802, -719155, 3598},
		{early, -farYear, -200794188573525, 82802, -200794188573143, 3598},
		{early, farYear, 200794187134451, 82802, 200794187134833, 3598},
		{"ABC0DEF0,J1/0,J1/-0:00:01", 1970, 0, 0, -1, 86399},
		{"ABC0DEF0,J1/0,J1/-0:00:01", 1969, -365, 0, -366, 86399},
		{"ABC0DEF0,J1/23:59:59,J1/24", 1970, 0, 86399, 1, 0},
		{"ABC0DEF0,J1/23:59:59,J1/24", 1969, -365, 86399, -364, 0},
	} {
		checkChanges(t, x.rule, x.year, api.Instant{Day: x.startDay, Sec: x.startSec}, api.Instant{Day: x.endDay, Sec: x.endSec})
	}
}

// changeYears holds common and leap years with January 1 on each weekday, ends
// of centuries, and both ends of the domain.
func changeYears() []int {
	list := []int{
		-farYear, -farYear + 1, -farYear + 2, -292277022658, -292277022657, -1 << 32, -1900, -401, -400, -399, -101, -100, -99, -5, -4, -3, -2, -1,
		0, 1, 2, 3, 4, 1600, 1899, 1900, 1901, 2096, 2100, 2101, 2400, 9999, 10000, 1 << 32, 292277026596, 292277026597, farYear - 2, farYear - 1, farYear,
	}
	for year := 1968; year <= 2030; year++ {
		list = append(list, year)
	}
	return list
}

// P11.1: the changes of many rules and years.
func TestChanges(t *testing.T) {
	for _, s := range slices.Concat(permanentRules(), changingRules()) {
		for _, year := range changeYears() {
			start, end := expectedChanges(rule(t, s), year)
			checkChanges(t, s, year, start, end)
		}
	}
}

// P11.1: start and end each have their own day and time, and the offset of the
// other state.
func TestChangesCombined(t *testing.T) {
	days := []string{"J1", "J59", "J60", "J365", "0", "59", "60", "365", "M1.1.0", "M2.5.6", "M12.5.3"}
	times := []string{"", "/0", "/-0:00:01", "/24", "/-24", "/167:59:59", "/-167:59:59"}
	offsets := []string{"0", "-0:00:01", "5", "24:59:59", "-24:59:59"}
	count := 0
	for _, start := range days {
		for _, end := range days {
			for _, time := range times {
				count++
				s := "ABC" + offsets[count%5] + "DEF" + offsets[count/5%5] + "," + start + time + "," + end + times[count/3%7]
				for _, year := range []int{-farYear, -100, -1, 0, 1900, 2023, 2024, farYear} {
					wantStart, wantEnd := expectedChanges(rule(t, s), year)
					checkChanges(t, s, year, wantStart, wantEnd)
				}
			}
		}
	}
}

// P11.1: the changes of two years of permanent daylight saving time have the
// same instant, and others have it within one year.
func TestChangesCoincide(t *testing.T) {
	for year := 1960; year <= 2040; year++ {
		_, end := tzeval.Changes(rule(t, "EST5EDT,0/0,J365/25"), year)
		start, _ := tzeval.Changes(rule(t, "EST5EDT,0/0,J365/25"), year+1)
		if tzeval.Compare(start, end) != 0 {
			t.Errorf("the end of %d is %+v, the start of the next year is %+v", year, end, start)
		}
		start, end = tzeval.Changes(rule(t, "ABC0DEF,J100/0,J100/1"), year)
		if tzeval.Compare(start, end) != 0 {
			t.Errorf("the start of %d is %+v, its end is %+v", year, start, end)
		}
	}
}

// P11.1 to P11.3: the chapter's example.
func TestExample(t *testing.T) {
	checkChanges(t, eastern(), 2024, api.Instant{Day: 19792, Sec: 25200}, api.Instant{Day: 20030, Sec: 21600})
	checkAt(t, eastern(), 1710053999, api.Result{Defined: true, Offset: -18000, Name: "EST"})
	checkAt(t, eastern(), 1710054000, api.Result{Defined: true, Offset: -14400, Dst: true, Name: "EDT"})
	checkNext(t, eastern(), 1710053999, 1710054000, true)
}

// consecutive lists times at which the state of a rule changes, with no others
// between them; toDst tells whether the first one is to daylight saving time.
type consecutive struct {
	rule  string
	toDst bool
	times []int64
}

// known lists times that were computed outside of the program.
func known() []consecutive {
	return []consecutive{
		{eastern(), true, []int64{1678604400, 1699164000, 1710054000, 1730613600, 1741503600}},
		{eastern(), true, []int64{-2203002000, -2182442400, -2171552400, -2150992800}},
		{"CET-1CEST,M3.5.0,M10.5.0/3", true, []int64{1679792400, 1698541200, 1711846800, 1729990800, 1743296400}},
		// End is before Start.
		{"NZST-12NZDT,M9.5.0,M4.1.0/3", false, []int64{1680357600, 1695477600, 1712412000, 1727532000, 1743861600}},
		{"IST-1GMT0,M10.5.0,M3.5.0/1", false, []int64{1679792400, 1698541200, 1711846800, 1729990800, 1743296400}},
		{"<-02>2<-01>,M3.5.0/-1,M10.5.0/0", true, []int64{1679792400, 1698541200, 1711846800, 1729990800, 1743296400}},
		// Only the flag differs.
		{"ABC5ABC5,M3.2.0,M11.1.0", true, []int64{1710054000, 1730617200}},
		// Standard time or daylight saving time lasts an hour, or a second.
		{"EST5EDT,0/0,J365/24", false, []int64{1672545600, 1672549200, 1704081600, 1704085200}},
		{"EST5EDT,0/0,J365/26", true, []int64{1672549200, 1672552800, 1704085200, 1704088800}},
		{"ABC0DEF0,J1/0,J1/-0:00:01", false, []int64{1672531199, 1672531200, 1704067199, 1704067200}},
		{"ABC0DEF0,J1/23:59:59,J1/24", true, []int64{1672617599, 1672617600, 1704153599, 1704153600}},
		// The changes coincide in common years, and 1900 and 2100 are such.
		{"ABC0DEF,J60/0,59/1", false, []int64{1582934400, 1583020800, 1709164800, 1709251200, 1835395200, 1835481600}},
		{"ABC0DEF,J60/0,59/1", false, []int64{-2330121600, -2330035200, -2077747200, -2077660800}},
		{"ABC0DEF,J60/0,59/1", false, []int64{3981312000, 3981398400, 4233686400, 4233772800}},
		{"ABC0DEF,0/0,365/1", false, []int64{1609372800, 1609459200, 1735603200, 1735689600, 1861833600, 1861920000}},
		{"ABC0DEF,0/0,365/1", false, []int64{4007750400, 4007836800, 4260124800, 4260211200}},
		// They coincide unless February 29 is a Sunday, as in 2004, 2032, 2088 and 2128.
		{"ABC0DEF,M2.5.0/0,M2.4.0/1", false, []int64{1077408000, 1078012800, 1961020800, 1961625600}},
		{"ABC0DEF,M2.5.0/0,M2.4.0/1", false, []int64{3728246400, 3728851200, 4990464000, 4991068800}},
		{"ABC0DEF,M2.4.0/0,M2.5.0/1", false, []int64{1078012800, 1109462400, 1961625600, 1993075200}},
		{"ABC0DEF,M2.4.0/0,M2.5.0/1", false, []int64{3728851200, 3760300800, 4991068800, 5022518400}},
		// One change, or both, lie in the year before or after.
		{"ABC24:59:59DEF-24:59:59,365/167:59:59,J1/-167:59:59", false, []int64{1671836402, 1673225998, 1703372402, 1704761998, 1734994802, 1736297998}},
		{"ABC-24:59:59DEF24:59:59,J1/-167:59:59,365/167:59:59", true, []int64{1671836402, 1673225998, 1703372402, 1704761998, 1734994802, 1736297998}},
		{"ABC24:59:59DEF24:59:59,365/167:59:59,365/100", false, []int64{1672981199, 1673225998, 1704517199, 1704761998, 1736053199, 1736297998}},
		{"ABC24:59:59DEF24:59:59,365/100,365/167:59:59", true, []int64{1672981199, 1673225998, 1704517199, 1704761998, 1736053199, 1736297998}},
		{"ABC-24:59:59DEF-24:59:59,J1/-167:59:59,J1/-100", true, []int64{1671836402, 1672081201, 1703372402, 1703617201, 1734994802, 1735239601}},
		{"ABC-24:59:59DEF-24:59:59,J1/-100,J1/-167:59:59", false, []int64{1671836402, 1672081201, 1703372402, 1703617201, 1734994802, 1735239601}},
	}
}

// P11.2: the result before, at and after changes that are known.
func TestAtKnown(t *testing.T) {
	for _, x := range known() {
		r, dst := rule(t, x.rule), x.toDst
		for i, at := range x.times {
			checkAt(t, x.rule, at-1, resultOf(r, !dst))
			checkAt(t, x.rule, at, resultOf(r, dst))
			if i+1 < len(x.times) && x.times[i+1] > at+1 {
				checkAt(t, x.rule, at+1, resultOf(r, dst))
				checkAt(t, x.rule, at+(x.times[i+1]-at)/2, resultOf(r, dst))
			}
			dst = !dst
		}
	}
}

// P11.3: the change that follows on each known one, on the second before it and
// on the second after it.
func TestNextKnown(t *testing.T) {
	for _, x := range known() {
		for i, at := range x.times {
			checkNext(t, x.rule, at-1, at, true)
			if i == 0 {
				continue
			}
			before := x.times[i-1]
			checkNext(t, x.rule, before, at, true)
			if before+1 < at {
				checkNext(t, x.rule, before+1, at, true)
				checkNext(t, x.rule, before+(at-before)/2, at, true)
			}
		}
	}
}

// manyTimes holds numbers around every power of two, the ends of the range, and
// steps through it.
func manyTimes() []int64 {
	list := []int64{-1, 0, 1, math.MaxInt64 - cycle, math.MaxInt64 - cycle + 1, math.MaxInt64 - 1, math.MaxInt64, math.MinInt64, math.MinInt64 + 1, math.MinInt64 + cycle}
	for k := 10; k < 63; k++ {
		p := int64(1) << k
		list = append(list, -p-1, -p, -p+1, p-1, p, p+1)
	}
	const step = math.MaxInt64 / 101
	for k := int64(-101); k <= 101; k++ {
		list = append(list, k*step)
	}
	return list
}

// P11.2 and P11.3: without daylight saving time nothing ever changes.
func TestStandardOnly(t *testing.T) {
	for _, s := range standardRules() {
		want := resultOf(rule(t, s), false)
		for _, at := range manyTimes() {
			checkAt(t, s, at, want)
			checkNext(t, s, at, 0, false)
		}
	}
	checkAt(t, "UTC0", 0, api.Result{Defined: true, Name: "UTC"})
	checkAt(t, "<+03>-3", math.MinInt64, api.Result{Defined: true, Offset: 10800, Name: "+03"})
	checkAt(t, "<-00>0", math.MaxInt64, api.Result{Defined: true, Name: "-00"})
}

// P11.2 and P11.3: permanent daylight saving time, also at the instants that
// two changes have in common.
func TestPermanent(t *testing.T) {
	for _, s := range permanentRules() {
		r := rule(t, s)
		for _, at := range manyTimes() {
			checkAt(t, s, at, resultOf(r, true))
			checkNext(t, s, at, 0, false)
		}
		for year := 1968; year <= 2032; year++ {
			start, _ := tzeval.Changes(r, year)
			for d := int64(-2); d <= 2; d++ {
				at := int64(start.Day)*86400 + int64(start.Sec) + d
				checkAt(t, s, at, resultOf(r, true))
				checkNext(t, s, at, 0, false)
			}
		}
	}
}

// P11.2 and P11.3: both functions on every change of some years, with the
// second before and after it, and at the ends of the years.
func TestModelYears(t *testing.T) {
	years := []int{2000, 2001, 2002, 2003, 2004, 2005, 2006, 2007, 2008, 2015, 2023, 2024, 2027, 2028, 2096, 2099, 2100, 2101, 2104, 2200, 2399, 2400}
	for _, s := range changingRules() {
		m := modelOf(rule(t, s))
		for i, at := range m.times {
			if year := time.Unix(at, 0).UTC().Year(); !slices.Contains(years, year) {
				continue
			}
			for _, shift := range []int64{0, -5 * cycle, 700000000 * cycle} {
				checkModel(t, s, m, at-1+shift)
				checkModel(t, s, m, at+shift)
				checkModel(t, s, m, at+1+shift)
				checkModel(t, s, m, (at+m.times[i+1])/2+shift)
			}
		}
		for year := 1995; year <= 2012; year++ {
			first := time.Date(year, 1, 1, 0, 0, 0, 0, time.UTC).Unix()
			for day := int64(-10); day <= 10; day++ {
				checkModel(t, s, m, first+day*86400-1)
				checkModel(t, s, m, first+day*86400)
			}
		}
	}
}

// P11.2 and P11.3: both functions in the whole range of 64 bits.
func TestModelEverywhere(t *testing.T) {
	for _, s := range changingRules() {
		m := modelOf(rule(t, s))
		for _, at := range manyTimes() {
			checkModel(t, s, m, at)
		}
		for d := int64(0); d < 3*366*86400; d += 777777 {
			checkModel(t, s, m, math.MinInt64+d)
			checkModel(t, s, m, math.MaxInt64-d)
		}
	}
}

// P11.2 and P11.3: changes at the last seconds of 64 bits, which end on
// 292277026596-12-04 at 15:30:07. A change that comes later is none.
func TestLastTimes(t *testing.T) {
	const last = math.MaxInt64
	for _, day := range []string{"J338", "338", "M12.1.0"} {
		for _, x := range []struct {
			time string
			at   int64
		}{{"15:30:07", last}, {"15:30:06", last - 1}, {"15:29:07", last - 60}, {"0", last - 55807}} {
			s := "ABC0DEF," + day + "/" + x.time + ",J1"
			r := rule(t, s)
			checkNext(t, s, 9223372036825520400, x.at, true)
			checkNext(t, s, x.at-1, x.at, true)
			checkNext(t, s, x.at, 0, false)
			checkNext(t, s, last, 0, false)
			checkAt(t, s, x.at-1, resultOf(r, false))
			checkAt(t, s, x.at, resultOf(r, true))
			checkAt(t, s, last, resultOf(r, true))
		}
		for _, time := range []string{"15:30:08", "15:31", "24", "167"} {
			s := "ABC0DEF," + day + "/" + time + ",J1"
			r := rule(t, s)
			checkNext(t, s, 9223372036825520399, 9223372036825520400, true)
			checkNext(t, s, 9223372036825520400, 0, false)
			checkNext(t, s, last-1, 0, false)
			checkNext(t, s, last, 0, false)
			checkAt(t, s, 9223372036825520399, resultOf(r, true))
			checkAt(t, s, 9223372036825520400, resultOf(r, false))
			checkAt(t, s, last, resultOf(r, false))
		}
	}
	checkNext(t, eastern(), 9223372036831762799, 9223372036831762800, true)
	checkNext(t, eastern(), 9223372036831762800, 9223372036852322400, true)
	checkNext(t, eastern(), 9223372036852322399, 9223372036852322400, true)
	checkNext(t, eastern(), 9223372036852322400, 0, false)
	checkNext(t, eastern(), last, 0, false)
}

// P11.2 and P11.3: changes at the first seconds of 64 bits, which begin on
// -292277022657-01-27 at 08:29:52. A change that came earlier counts.
func TestFirstTimes(t *testing.T) {
	const first, end = math.MinInt64, -9223372036831215600
	for _, day := range []string{"J27", "26", "M1.4.0"} {
		for _, time := range []string{"8:29:52", "8:29:51", "0", "-167"} {
			s := "ABC0DEF," + day + "/" + time + ",J300"
			checkAt(t, s, first, resultOf(rule(t, s), true))
			checkNext(t, s, first, end, true)
			checkNext(t, s, end-1, end, true)
		}
		for _, x := range []struct {
			time string
			at   int64
		}{{"8:29:53", first + 1}, {"8:29:54", first + 2}, {"8:30:52", first + 60}, {"32:29:52", first + 86400}} {
			s := "ABC0DEF," + day + "/" + x.time + ",J300"
			r := rule(t, s)
			checkAt(t, s, first, resultOf(r, false))
			checkAt(t, s, x.at-1, resultOf(r, false))
			checkAt(t, s, x.at, resultOf(r, true))
			checkNext(t, s, first, x.at, true)
			checkNext(t, s, x.at-1, x.at, true)
			checkNext(t, s, x.at, end, true)
		}
	}
	checkAt(t, eastern(), first, resultOf(rule(t, eastern()), false))
	checkNext(t, eastern(), first, -9223372036851152400, true)
	checkNext(t, eastern(), -9223372036851152400, -9223372036830592800, true)
}

// P11.4: Next leads through all changes of 400 years to the one with which they
// repeat, the result differs at each of them, and is constant in between.
func TestConstantBetween(t *testing.T) {
	for _, s := range changingRules() {
		r := rule(t, s)
		flips := modelOf(r).flips()
		at := flips[0]
		for _, want := range append(flips[1:], flips[0]+cycle) {
			next, ok := tzeval.Next(r, at)
			if !ok || next != want {
				t.Fatalf("%s: Next(%d) = %d, %v, want %d", s, at, next, ok, want)
			}
			state := tzeval.At(r, at)
			if tzeval.At(r, next) == state {
				t.Errorf("%s: no change at %d", s, next)
			}
			for _, between := range []int64{at, at + (next-at)/3, at + (next-at)/2, next - 1} {
				checkAt(t, s, between, state)
				checkNext(t, s, between, next, true)
			}
			at = next
		}
	}
}

// P11.4: in steps through two years, the result is the one that the latest
// change set to which Next leads.
func TestStepsAgree(t *testing.T) {
	const begin, length, step = 1690000000, 2 * 366 * 86400, 9973
	for _, s := range allRules() {
		r := rule(t, s)
		next, ok := tzeval.Next(r, begin)
		state := tzeval.At(r, begin)
		for at := int64(begin); at < begin+length; at += step {
			for ok && next <= at {
				reached := next
				state = tzeval.At(r, reached)
				next, ok = tzeval.Next(r, reached)
				if ok && next <= reached {
					t.Fatalf("%s: Next(%d) = %d", s, reached, next)
				}
			}
			if got := tzeval.At(r, at); got != state {
				t.Fatalf("%s: At(%d) = %+v, want %+v", s, at, got, state)
			}
		}
	}
}

// P11.3 and P11.4: 400 years after a time everything repeats, also at and around
// changes.
func TestRepeats(t *testing.T) {
	for _, s := range allRules() {
		r := rule(t, s)
		times := manyTimes()
		for i, at := range modelOf(r).flips() {
			if i < 8 {
				times = append(times, at-cycle-1, at-cycle, at-cycle+1, at-1, at, at+1)
			}
		}
		for _, at := range times {
			if at > math.MaxInt64-2*cycle {
				continue
			}
			checkAt(t, s, at+cycle, tzeval.At(r, at))
			next, ok := tzeval.Next(r, at)
			if ok {
				next += cycle
			}
			checkNext(t, s, at+cycle, next, ok)
		}
	}
	checkNext(t, eastern(), 1710053999+cycle, 14332834800, true)
	checkNext(t, eastern(), 1699164000+cycle, 14332834800, true)
	checkAt(t, eastern(), 14332834799, resultOf(rule(t, eastern()), false))
	checkAt(t, eastern(), 14332834800, resultOf(rule(t, eastern()), true))
}

// shares reports whether two strings lie in the same memory.
func shares(a, b string) bool {
	first, other := uintptr(unsafe.Pointer(unsafe.StringData(a))), uintptr(unsafe.Pointer(unsafe.StringData(b)))
	return first < other+uintptr(len(b)) && other < first+uintptr(len(a))
}

// Results do not share memory with arguments: DOC.md, rule 5.
func TestResultsAreNew(t *testing.T) {
	for _, s := range allRules() {
		r := rule(t, s)
		for _, at := range []int64{math.MinInt64, 0, 1704067200, 1720000000, math.MaxInt64} {
			if name := tzeval.At(r, at).Name; shares(name, r.Std) || shares(name, r.Dst) {
				t.Errorf("%s: the name of At(%d) shares memory", s, at)
			}
		}
	}
}

// No call panics, and all of them end, whatever they are given: LANGUAGE.md,
// rule 4.
func TestUnspecified(t *testing.T) {
	extremes := []int{math.MinInt, math.MinInt + 1, -1 << 62, -1, 0, 1, 3, 366, 1 << 62, math.MaxInt}
	for _, n := range extremes {
		for _, m := range extremes {
			for kind := -1; kind <= 4; kind++ {
				d := api.RuleDay{Kind: kind, Day: n, Month: m, Week: n, Weekday: m, Time: n}
				valid := api.RuleDay{Kind: api.DayMonth, Month: 3, Week: 2}
				for _, r := range []api.Rule{
					{StdOffset: m, DstOffset: n, HasDst: true, Start: d, End: d},
					{StdOffset: m, DstOffset: n, HasDst: true, Start: d, End: valid},
					{StdOffset: m, DstOffset: n, HasDst: true, Start: valid, End: d},
					{StdOffset: m, DstOffset: n, Start: d, End: d},
				} {
					tzeval.Changes(r, n)
					tzeval.Changes(r, m)
					tzeval.At(r, int64(n))
					tzeval.Next(r, int64(m))
				}
			}
		}
	}
}
