package ruleday_test

import (
	"math"
	"testing"
	"time"

	"zoneinfo/api"
	"zoneinfo/ruleday"
)

const (
	// farYear is the last year of the domain, -farYear the first one.
	farYear = 1 << 39
	// The calendar repeats after 400 years, which have cycleDays.
	cycleDays = 146097
	// maxTime is 167:59:59.
	maxTime = 604799
)

func julian(day int) api.RuleDay { return api.RuleDay{Kind: api.DayJulian, Day: day} }

func zero(day int) api.RuleDay { return api.RuleDay{Kind: api.DayZero, Day: day} }

func month(month, week, weekday int) api.RuleDay {
	return api.RuleDay{Kind: api.DayMonth, Month: month, Week: week, Weekday: weekday}
}

func timed(d api.RuleDay, seconds int) api.RuleDay {
	d.Time = seconds
	return d
}

// validDays lists all valid rule days with the time 0.
func validDays() []api.RuleDay {
	var list []api.RuleDay
	for day := 1; day <= 365; day++ {
		list = append(list, julian(day))
	}
	for day := 0; day <= 365; day++ {
		list = append(list, zero(day))
	}
	for m := 1; m <= 12; m++ {
		for week := 1; week <= 5; week++ {
			for weekday := 0; weekday <= 6; weekday++ {
				list = append(list, month(m, week, weekday))
			}
		}
	}
	return list
}

// years holds common and leap years with January 1 on each weekday, ends of
// centuries, and both ends of the domain.
func years() []int {
	list := []int{
		-farYear, -farYear + 1, -farYear + 2, -1 << 31, -1900, -401, -400, -399, -101, -100, -99, -5, -4, -3, -2, -1,
		0, 1, 2, 3, 4, 1582, 1599, 1600, 1601, 1899, 1900, 1901, 1999, 9999, 10000, 1 << 31, farYear - 2, farYear - 1, farYear,
	}
	for y := 1968; y <= 2040; y++ {
		list = append(list, y)
	}
	return append(list, 2096, 2099, 2100, 2101, 2399, 2400, 2401)
}

// calendar answers for a year from the library's package time, which the
// program may not use, and which is asked for the same year of the cycle that
// begins in 2000.
type calendar struct {
	year  int // the year asked of package time
	shift int // the days from that year to the one in question
}

func of(year int) calendar {
	place := (year%400 + 400) % 400
	return calendar{2000 + place, (year - place - 2000) / 400 * cycleDays}
}

func (c calendar) date(month, day int) time.Time {
	return time.Date(c.year, time.Month(month), day, 0, 0, 0, 0, time.UTC)
}

func (c calendar) number(x time.Time) int { return int(x.Unix()/86400) + c.shift }

func (c calendar) isLeap() bool { return c.date(2, 29).Month() == time.February }

// julian passes February 29 over while it counts.
func (c calendar) julian(day int) int {
	x := c.date(1, 1)
	for day > 1 {
		x = x.AddDate(0, 0, 1)
		if x.Month() != time.February || x.Day() != 29 {
			day--
		}
	}
	return c.number(x)
}

// weekday lists such weekdays of the month.
func (c calendar) weekday(d api.RuleDay) int {
	var found []time.Time
	for x := c.date(d.Month, 1); int(x.Month()) == d.Month; x = x.AddDate(0, 0, 1) {
		if int(x.Weekday()) == d.Weekday {
			found = append(found, x)
		}
	}
	if d.Week == 5 {
		return c.number(found[len(found)-1])
	}
	return c.number(found[d.Week-1])
}

func (c calendar) day(d api.RuleDay) int {
	switch d.Kind {
	case api.DayJulian:
		return c.julian(d.Day)
	case api.DayZero:
		return c.number(c.date(1, 1).AddDate(0, 0, d.Day))
	}
	return c.weekday(d)
}

func checkValid(t *testing.T, d api.RuleDay, want bool) {
	t.Helper()
	if got := ruleday.Valid(d); got != want {
		t.Errorf("Valid(%+v) = %v, want %v", d, got, want)
	}
}

func checkDay(t *testing.T, d api.RuleDay, year, want int) {
	t.Helper()
	if got := ruleday.Day(d, year); got != want {
		t.Errorf("Day(%+v, %d) = %d, want %d", d, year, got, want)
	}
}

func checkAt(t *testing.T, d api.RuleDay, year int, want int64) {
	t.Helper()
	if got := ruleday.At(d, year); got != want {
		t.Errorf("At(%+v, %d) = %d, want %d", d, year, got, want)
	}
}

// P6.1: every valid rule day is valid, with times up to 167:59:59 on either
// side of midnight.
func TestValid(t *testing.T) {
	for _, d := range validDays() {
		for _, seconds := range []int{-maxTime, -maxTime + 1, -86400, -1, 0, 1, 7200, 86400, maxTime - 1, maxTime} {
			checkValid(t, timed(d, seconds), true)
		}
	}
}

// P6.1: times of 168 hours and more are invalid.
func TestValidTime(t *testing.T) {
	for _, d := range []api.RuleDay{julian(1), julian(365), zero(0), zero(365), month(3, 2, 0), month(12, 5, 6)} {
		for _, seconds := range []int{-maxTime - 1, maxTime + 1, -604801, 604801, 1 << 32, -1 << 32, math.MinInt, math.MaxInt} {
			checkValid(t, timed(d, seconds), false)
		}
	}
}

// P6.1: there are three kinds.
func TestValidKind(t *testing.T) {
	for _, kind := range []int{math.MinInt, -3, -2, -1, 0, 4, 5, 1 << 32, 1<<32 + 1, 1<<32 + 3, math.MaxInt} {
		for _, d := range []api.RuleDay{{}, julian(1), zero(0), zero(1), month(3, 2, 0)} {
			d.Kind = kind
			checkValid(t, d, false)
		}
	}
}

// P6.1: each field that a kind uses has its range.
func TestValidRange(t *testing.T) {
	for _, day := range []int{math.MinInt, -1, 0, 366, 367, 1<<32 + 1, math.MaxInt} {
		checkValid(t, julian(day), false)
	}
	for _, day := range []int{math.MinInt, -2, -1, 366, 367, 1 << 32, math.MaxInt} {
		checkValid(t, zero(day), false)
	}
	for _, m := range []int{math.MinInt, -1, 0, 13, 14, 1<<32 + 1, math.MaxInt} {
		checkValid(t, month(m, 1, 0), false)
		checkValid(t, month(m, 5, 6), false)
	}
	for _, week := range []int{math.MinInt, -1, 0, 6, 7, 1<<32 + 1, math.MaxInt} {
		checkValid(t, month(1, week, 0), false)
		checkValid(t, month(12, week, 6), false)
	}
	for _, weekday := range []int{math.MinInt, -2, -1, 7, 8, 1 << 32, math.MaxInt} {
		checkValid(t, month(1, 1, weekday), false)
		checkValid(t, month(12, 5, weekday), false)
	}
}

// P6.1: the fields that a kind does not use are 0.
func TestValidUnused(t *testing.T) {
	for _, v := range []int{math.MinInt, -1, 1, 2, 5, 6, 12, 1 << 32, math.MaxInt} {
		for _, d := range []api.RuleDay{julian(1), julian(60), julian(365), zero(0), zero(59), zero(365)} {
			withMonth, withWeek, withWeekday := d, d, d
			withMonth.Month, withWeek.Week, withWeekday.Weekday = v, v, v
			checkValid(t, withMonth, false)
			checkValid(t, withWeek, false)
			checkValid(t, withWeekday, false)
		}
		for _, d := range []api.RuleDay{month(1, 1, 0), month(3, 2, 0), month(12, 5, 6)} {
			d.Day = v
			checkValid(t, d, false)
		}
	}
}

// P6.1: the chapter's examples. 19792 is 2024-03-10, 19783 is 2024-03-01,
// 19417 is 2023-03-01.
func TestExamples(t *testing.T) {
	checkDay(t, month(3, 2, 0), 2024, 19792)
	checkDay(t, julian(60), 2024, 19783)
	checkDay(t, julian(60), 2023, 19417)
	checkDay(t, zero(59), 2024, 19782)
	checkAt(t, timed(month(3, 2, 0), 7200), 2024, 1710036000)
	for _, year := range years() {
		c := of(year)
		checkDay(t, julian(60), year, c.number(c.date(3, 1)))
		if c.isLeap() {
			checkDay(t, zero(59), year, c.number(c.date(2, 29)))
		}
	}
}

// P6.1: literal day numbers that were computed outside of the program.
func TestKnownDays(t *testing.T) {
	for _, x := range []struct {
		d          api.RuleDay
		year, want int
	}{
		{julian(1), 1970, 0}, {julian(59), 1970, 58}, {julian(60), 1970, 59}, {julian(365), 1970, 364},
		{julian(1), 1972, 730}, {julian(59), 1972, 788}, {julian(60), 1972, 790}, {julian(365), 1972, 1095},
		{zero(0), 1970, 0}, {zero(58), 1970, 58}, {zero(59), 1970, 59}, {zero(60), 1970, 60}, {zero(364), 1970, 364}, {zero(365), 1970, 365},
		{zero(0), 1972, 730}, {zero(58), 1972, 788}, {zero(59), 1972, 789}, {zero(60), 1972, 790}, {zero(364), 1972, 1094}, {zero(365), 1972, 1095},
		{julian(60), 1900, -25508}, {zero(59), 1900, -25508}, {julian(60), 2000, 11017}, {zero(59), 2000, 11016},
		{julian(1), 0, -719528}, {zero(59), 0, -719469}, {julian(60), 0, -719468}, {zero(365), 0, -719163}, {julian(365), 0, -719163},
		{julian(1), 1, -719162}, {zero(365), -1, -719528}, {julian(365), -1, -719529}, {zero(0), -1, -719893},
		// In February 2015 there are four Sundays and in 2032 there are five.
		{month(2, 4, 0), 2015, 16488}, {month(2, 5, 0), 2015, 16488}, {month(2, 4, 0), 2032, 22697}, {month(2, 5, 0), 2032, 22704},
		// 2026-11 begins on a Sunday and ends on a Monday.
		{month(11, 1, 0), 2026, 20758}, {month(11, 1, 6), 2026, 20764}, {month(11, 5, 0), 2026, 20786}, {month(11, 5, 1), 2026, 20787}, {month(11, 5, 2), 2026, 20781},
	} {
		checkDay(t, x.d, x.year, x.want)
	}
}

// P6.1: every rule day in common and in leap years, up to both ends of the
// domain.
func TestDays(t *testing.T) {
	days := validDays()
	for _, year := range years() {
		c := of(year)
		for _, d := range days {
			checkDay(t, d, year, c.day(d))
		}
	}
}

// P6.1: the time does not move the day.
func TestDayIgnoresTime(t *testing.T) {
	for _, d := range []api.RuleDay{julian(1), julian(60), zero(0), zero(365), month(1, 1, 0), month(2, 5, 6)} {
		for _, year := range []int{-farYear, -1, 0, 1, 1900, 2000, 2024, farYear} {
			want := of(year).day(d)
			for _, seconds := range []int{-maxTime, -86401, -1, 1, 86400, maxTime} {
				checkDay(t, timed(d, seconds), year, want)
			}
		}
	}
}

// P6.2: the change is Time seconds after the start of the day, or before it.
func TestAt(t *testing.T) {
	for _, d := range validDays() {
		for _, year := range []int{-1 << 37, -401, -1, 0, 1, 1900, 1970, 2000, 2023, 2024, 1 << 37} {
			start := int64(of(year).day(d)) * 86400
			for _, seconds := range []int{-maxTime, -86401, -86400, -1, 0, 1, 7200, 86399, 86400, maxTime} {
				checkAt(t, timed(d, seconds), year, start+int64(seconds))
			}
		}
	}
}

// P6.2: the last second of 64 bits is 292277026596-12-04 15:30:07, which is
// day 338 of DayZero in a leap year, a Sunday; the first is
// -292277022657-01-27 08:29:52, also a Sunday. The change may fit where the
// start of its day does not.
func TestAtLimits(t *testing.T) {
	const last, first = 292277026596, -292277022657
	for _, x := range []struct {
		d    api.RuleDay
		year int
		want int64
	}{
		{timed(julian(338), 55807), last, math.MaxInt64},
		{timed(julian(338), 55806), last, math.MaxInt64 - 1},
		{timed(zero(338), 55807), last, math.MaxInt64},
		{timed(month(12, 1, 0), 55807), last, math.MaxInt64},
		{timed(julian(339), 55807-86400), last, math.MaxInt64},
		{timed(zero(339), 55806-86400), last, math.MaxInt64 - 1},
		{timed(month(12, 2, 0), 55807-7*86400), last, math.MaxInt64},
		{timed(julian(27), 30592), first, math.MinInt64},
		{timed(julian(27), 30593), first, math.MinInt64 + 1},
		{timed(zero(26), 30592), first, math.MinInt64},
		{timed(month(1, 4, 0), 30592), first, math.MinInt64},
		{timed(julian(28), 30592-86400), first, math.MinInt64},
		{timed(zero(25), 30592+86400), first, math.MinInt64},
		{timed(julian(21), 30592+6*86400), first, math.MinInt64},
	} {
		checkAt(t, x.d, x.year, x.want)
	}
}

// P6.3: a DayMonth names a day of its month, with its weekday, and the last
// one for week 5.
func TestMonthStays(t *testing.T) {
	for _, year := range years() {
		c := of(year)
		for _, d := range validDays() {
			if d.Kind != api.DayMonth {
				continue
			}
			x := time.Unix(int64(ruleday.Day(d, year)-c.shift)*86400, 0).UTC()
			if x.Year() != c.year || int(x.Month()) != d.Month || int(x.Weekday()) != d.Weekday {
				t.Errorf("Day(%+v, %d) is %v, which has the shift %d", d, year, x, c.shift)
			}
			if next := x.AddDate(0, 0, 7); d.Week == 5 && next.Month() == x.Month() {
				t.Errorf("Day(%+v, %d) is %v, but %v follows in its month", d, year, x, next)
			}
		}
	}
}

// P6.3: how far the days of consecutive years lie apart.
func TestConsecutiveYears(t *testing.T) {
	days := validDays()
	for _, year := range years() {
		if year == farYear {
			continue
		}
		for _, d := range days {
			apart := ruleday.Day(d, year+1) - ruleday.Day(d, year)
			switch d.Kind {
			case api.DayMonth:
				if apart != 364 && apart != 371 {
					t.Errorf("%+v: %d days from %d to the next year", d, apart, year)
				}
			default:
				if apart != 365 && apart != 366 {
					t.Errorf("%+v: %d days from %d to the next year", d, apart, year)
				}
			}
		}
	}
}

// P6.3: a DayZero moves on by the length of the year that ends, a DayJulian
// after February by that of the year to which February 29 belongs.
func TestYearLengths(t *testing.T) {
	for _, x := range []struct {
		d           api.RuleDay
		year, apart int
	}{
		{zero(0), 2023, 365}, {zero(0), 2024, 366}, {zero(365), 2023, 365}, {zero(365), 2024, 366}, {zero(365), 1900, 365},
		{julian(59), 2023, 365}, {julian(59), 2024, 366}, {julian(60), 2023, 366}, {julian(60), 2024, 365}, {julian(365), 1999, 366},
		{month(3, 2, 0), 2023, 364}, {month(3, 1, 0), 2020, 371},
	} {
		if got := ruleday.Day(x.d, x.year+1) - ruleday.Day(x.d, x.year); got != x.apart {
			t.Errorf("%+v: %d days from %d to the next year, want %d", x.d, got, x.year, x.apart)
		}
	}
}

// No call panics, whatever it is given: LANGUAGE.md, rule 4.
func TestUnspecified(t *testing.T) {
	extremes := []int{math.MinInt, math.MinInt + 1, -1, 0, 1, 2, 3, 4, 13, math.MaxInt - 1, math.MaxInt}
	for _, kind := range extremes {
		for _, v := range extremes {
			for _, w := range extremes {
				for _, year := range extremes {
					for _, d := range []api.RuleDay{
						{Kind: kind, Day: v, Time: w}, {Kind: kind, Month: v, Week: w, Weekday: v}, {Kind: kind, Month: w, Week: 1, Weekday: v, Time: w},
						{Kind: kind, Day: v, Month: v, Week: w, Weekday: w, Time: v},
					} {
						ruleday.Valid(d)
						ruleday.Day(d, year)
						ruleday.At(d, year)
					}
				}
			}
		}
	}
}
