package datetime_test

import (
	"cmp"
	"math"
	"slices"
	"testing"
	"time"

	"zoneinfo/api"
	"zoneinfo/datetime"
)

const (
	// farYear is the last year of the domain, -farYear the first one.
	farYear = 1 << 40
	// The calendar repeats after 400 years, which have cycleSeconds.
	cycleSeconds = 146097 * 86400
)

// stamped is a timestamp with its date-time.
type stamped struct {
	t  int64
	dt api.DateTime
}

func at(t int64, year, month, day, hour, minute, second, weekday int) stamped {
	return stamped{t, api.DateTime{Year: year, Month: month, Day: day, Hour: hour, Minute: minute, Second: second, Weekday: weekday}}
}

// known lists literal values that were computed outside of the program.
func known() []stamped {
	return []stamped{
		at(math.MinInt64, -292277022657, 1, 27, 8, 29, 52, 0),
		at(math.MinInt64+1, -292277022657, 1, 27, 8, 29, 53, 0),
		at(-9223372036854720001, -292277022657, 1, 27, 23, 59, 59, 0),
		at(-9223372036854720000, -292277022657, 1, 28, 0, 0, 0, 1),
		at(-1<<62, -146138510344, 7, 14, 16, 14, 56, 5),
		at(-74784470400, -400, 3, 5, 0, 0, 0, 0),
		at(-62167219201, -1, 12, 31, 23, 59, 59, 5),
		at(-62167219200, 0, 1, 1, 0, 0, 0, 6),
		at(-62162035201, 0, 2, 29, 23, 59, 59, 2),
		at(-62162035200, 0, 3, 1, 0, 0, 0, 3),
		at(-62135596801, 0, 12, 31, 23, 59, 59, 0),
		at(-62135596800, 1, 1, 1, 0, 0, 0, 1),
		at(-2208988801, 1899, 12, 31, 23, 59, 59, 0),
		at(-2208988800, 1900, 1, 1, 0, 0, 0, 1),
		at(-2203891201, 1900, 2, 28, 23, 59, 59, 3),
		at(-2203891200, 1900, 3, 1, 0, 0, 0, 4),
		at(-1<<31-1, 1901, 12, 13, 20, 45, 51, 5),
		at(-1<<31, 1901, 12, 13, 20, 45, 52, 5),
		at(-86401, 1969, 12, 30, 23, 59, 59, 2),
		at(-86400, 1969, 12, 31, 0, 0, 0, 3),
		at(-86399, 1969, 12, 31, 0, 0, 1, 3),
		at(-1, 1969, 12, 31, 23, 59, 59, 3),
		at(0, 1970, 1, 1, 0, 0, 0, 4),
		at(1, 1970, 1, 1, 0, 0, 1, 4),
		at(59, 1970, 1, 1, 0, 0, 59, 4),
		at(60, 1970, 1, 1, 0, 1, 0, 4),
		at(3599, 1970, 1, 1, 0, 59, 59, 4),
		at(3600, 1970, 1, 1, 1, 0, 0, 4),
		at(86399, 1970, 1, 1, 23, 59, 59, 4),
		at(86400, 1970, 1, 2, 0, 0, 0, 5),
		at(951782399, 2000, 2, 28, 23, 59, 59, 1),
		at(951782400, 2000, 2, 29, 0, 0, 0, 2),
		at(951868799, 2000, 2, 29, 23, 59, 59, 2),
		at(951868800, 2000, 3, 1, 0, 0, 0, 3),
		at(1234567890, 2009, 2, 13, 23, 31, 30, 5),
		at(1704067199, 2023, 12, 31, 23, 59, 59, 0),
		at(1704067200, 2024, 1, 1, 0, 0, 0, 1),
		at(1709164800, 2024, 2, 29, 0, 0, 0, 4),
		at(1709251199, 2024, 2, 29, 23, 59, 59, 4),
		at(1710054000, 2024, 3, 10, 7, 0, 0, 0),
		at(1795046399, 2026, 11, 18, 23, 59, 59, 3),
		at(1<<31-1, 2038, 1, 19, 3, 14, 7, 2),
		at(1<<31, 2038, 1, 19, 3, 14, 8, 2),
		at(4107542399, 2100, 2, 28, 23, 59, 59, 0),
		at(4107542400, 2100, 3, 1, 0, 0, 0, 1),
		at(13574563200, 2400, 2, 29, 0, 0, 0, 2),
		at(253402300799, 9999, 12, 31, 23, 59, 59, 5),
		at(253402300800, 10000, 1, 1, 0, 0, 0, 6),
		at(1<<62, 146138514283, 6, 19, 7, 45, 4, 2),
		at(9223372036854719999, 292277026596, 12, 3, 23, 59, 59, 6),
		at(9223372036854720000, 292277026596, 12, 4, 0, 0, 0, 0),
		at(math.MaxInt64-1, 292277026596, 12, 4, 15, 30, 6, 0),
		at(math.MaxInt64, 292277026596, 12, 4, 15, 30, 7, 0),
	}
}

// expected asks the library's package time, which the program may not use, for
// the same second of the cycle that contains 1970.
func expected(t int64) api.DateTime {
	cycles, rest := t/cycleSeconds, t%cycleSeconds
	x := time.Unix(rest, 0).UTC()
	return api.DateTime{
		Year: x.Year() + 400*int(cycles), Month: int(x.Month()), Day: x.Day(),
		Hour: x.Hour(), Minute: x.Minute(), Second: x.Second(), Weekday: int(x.Weekday()),
	}
}

// timestamps holds, in ascending order, numbers around every power of two,
// around the ends of months from the first year to the last one, and in steps
// through the whole range.
func timestamps() []int64 {
	list := []int64{math.MinInt64, math.MinInt64 + 1, -1, 0, 1, math.MaxInt64 - 1, math.MaxInt64}
	for k := range 63 {
		p := int64(1) << k
		list = append(list, -p-1, -p, -p+1, p-1, p, p+1)
	}
	const most = math.MaxInt64/cycleSeconds - 1
	for _, cycle := range []int64{-most, -most / 2, -1000, -6, -5, -4, -1, 0, 1, 2, 1000, most / 2, most} {
		for _, y := range []int{1968, 1969, 1970, 1971, 1972, 1999, 2000, 2001, 2023, 2024, 2099, 2100, 2101, 2199, 2200, 2299, 2300} {
			for m := range 13 {
				x := time.Date(y, time.Month(m), 1, 0, 0, 0, 0, time.UTC).Unix() + cycle*cycleSeconds
				list = append(list, x-86401, x-86400, x-1, x, x+1, x+86399)
			}
		}
	}
	const step = math.MaxInt64 / 20011
	for k := int64(-20011); k <= 20011; k++ {
		list = append(list, k*step)
	}
	slices.Sort(list)
	return slices.Compact(list)
}

func checkOf(t *testing.T, at int64, want api.DateTime) {
	t.Helper()
	if got := datetime.Of(at); got != want {
		t.Errorf("Of(%d) = %+v, want %+v", at, got, want)
	}
	if got := datetime.YearOf(at); got != want.Year {
		t.Errorf("YearOf(%d) = %d, want %d", at, got, want.Year)
	}
}

func checkUnix(t *testing.T, dt api.DateTime, want int64, ok bool) {
	t.Helper()
	if got, gotOK := datetime.Unix(dt); got != want || gotOK != ok {
		t.Errorf("Unix(%+v) = %d, %v, want %d, %v", dt, got, gotOK, want, ok)
	}
}

// checkNever tries the date and time with every weekday, and with some that do
// not exist.
func checkNever(t *testing.T, dt api.DateTime) {
	t.Helper()
	for weekday := -1; weekday <= 7; weekday++ {
		dt.Weekday = weekday
		checkUnix(t, dt, 0, false)
	}
}

// P5.1: literal values: the chapter's example, the timestamps around 0, the
// first and last seconds of days and years, ends of February, ordinary
// timestamps and the ends of the 64-bit range.
func TestKnownDateTimes(t *testing.T) {
	for _, x := range known() {
		checkOf(t, x.t, x.dt)
	}
}

// P5.1: days and seconds on both sides of 1970 and at the ends of the range.
func TestSplitKnown(t *testing.T) {
	for _, x := range []struct {
		t        int64
		day, sec int
	}{
		{0, 0, 0}, {1, 0, 1}, {59, 0, 59}, {3600, 0, 3600}, {86399, 0, 86399}, {86400, 1, 0}, {86401, 1, 1}, {172799, 1, 86399}, {172800, 2, 0},
		{-1, -1, 86399}, {-2, -1, 86398}, {-86399, -1, 1}, {-86400, -1, 0}, {-86401, -2, 86399}, {-172800, -2, 0}, {-172801, -3, 86399},
		{951868800, 11017, 0}, {1710054000, 19792, 25200}, {-2203891201, -25509, 86399},
		{math.MaxInt64, 106751991167300, 55807}, {math.MaxInt64 - 55807, 106751991167300, 0}, {math.MaxInt64 - 55808, 106751991167299, 86399},
		{math.MinInt64, -106751991167301, 30592}, {math.MinInt64 + 55807, -106751991167301, 86399}, {math.MinInt64 + 55808, -106751991167300, 0},
	} {
		if day, sec := datetime.Split(x.t); day != x.day || sec != x.sec {
			t.Errorf("Split(%d) = %d, %d, want %d, %d", x.t, day, sec, x.day, x.sec)
		}
	}
}

// P5.1 and P5.4: the second lies within the day and both together are the
// timestamp, everywhere in the range.
func TestSplitEverywhere(t *testing.T) {
	for _, at := range timestamps() {
		day, sec := datetime.Split(at)
		if sec < 0 || sec > 86399 {
			t.Errorf("Split(%d) = %d, %d", at, day, sec)
		}
		// Of the first day only the end has timestamps, so count back from there.
		if back := int64(day+1)*86400 - int64(86400-sec); day < 0 && back != at {
			t.Errorf("Split(%d) = %d, %d, which is %d", at, day, sec, back)
		}
		if on := int64(day)*86400 + int64(sec); day >= 0 && on != at {
			t.Errorf("Split(%d) = %d, %d, which is %d", at, day, sec, on)
		}
	}
}

// P5.1 and P5.4: Of and YearOf as the library's package time has them,
// everywhere in the range.
func TestLibraryAgrees(t *testing.T) {
	for _, at := range timestamps() {
		checkOf(t, at, expected(at))
	}
}

// P5.2: literal values.
func TestKnownTimestamps(t *testing.T) {
	for _, x := range known() {
		checkUnix(t, x.dt, x.t, true)
	}
}

// P5.2: month, day, hour, minute and second on both sides of their ranges,
// from a date whose neighbors exist.
func TestUnixRejectsRanges(t *testing.T) {
	base := api.DateTime{Year: 2024, Month: 3, Day: 10, Hour: 7, Minute: 30, Second: 15}
	wild := []int{math.MinInt, math.MinInt + 1, -1 << 40, -100, -1, 100, 1 << 40, math.MaxInt - 1, math.MaxInt}
	for _, x := range []struct {
		field     func(dt *api.DateTime) *int
		low, high int
	}{
		{func(dt *api.DateTime) *int { return &dt.Month }, 1, 12},
		{func(dt *api.DateTime) *int { return &dt.Day }, 1, 31},
		{func(dt *api.DateTime) *int { return &dt.Hour }, 0, 23},
		{func(dt *api.DateTime) *int { return &dt.Minute }, 0, 59},
		{func(dt *api.DateTime) *int { return &dt.Second }, 0, 59},
	} {
		for _, v := range append([]int{x.low - 1, x.low - 2, x.high + 1, x.high + 2}, wild...) {
			dt := base
			*x.field(&dt) = v
			checkNever(t, dt)
		}
		for v := x.low; v <= x.high; v++ {
			dt := base
			*x.field(&dt) = v
			want := time.Date(dt.Year, time.Month(dt.Month), dt.Day, dt.Hour, dt.Minute, dt.Second, 0, time.UTC)
			dt.Weekday = int(want.Weekday())
			checkUnix(t, dt, want.Unix(), true)
		}
	}
}

// P5.2: the fields at their limits, in the last second of a day and beyond it.
func TestUnixRejectsTimesBeyondTheDay(t *testing.T) {
	checkUnix(t, api.DateTime{Year: 1970, Month: 1, Day: 1, Hour: 23, Minute: 59, Second: 59, Weekday: 4}, 86399, true)
	for _, x := range [][3]int{{24, 0, 0}, {23, 60, 0}, {23, 59, 60}, {0, 0, 60}, {0, 60, 0}, {0, 0, 86399}, {0, -1, 60}, {1, -60, 0}, {1, 0, -1}, {-1, 60, 0}, {-1, 0, 3600}} {
		checkNever(t, api.DateTime{Year: 1970, Month: 1, Day: 1, Hour: x[0], Minute: x[1], Second: x[2]})
	}
}

// P5.2: every month and day, of which some do not exist, in common and leap
// years, with every weekday, of which one is right.
func TestUnixKnowsTheCalendar(t *testing.T) {
	for _, y := range []int{-400, -100, -4, -1, 0, 1, 4, 1600, 1899, 1900, 1969, 1970, 1972, 2000, 2023, 2024, 2100, 2400, 1000000} {
		for m := -1; m <= 14; m++ {
			for d := -1; d <= 33; d++ {
				x := time.Date(y, time.Month(m), d, 12, 34, 56, 0, time.UTC)
				exists := x.Year() == y && int(x.Month()) == m && x.Day() == d
				for weekday := -8; weekday <= 14; weekday++ {
					dt := api.DateTime{Year: y, Month: m, Day: d, Hour: 12, Minute: 34, Second: 56, Weekday: weekday}
					if exists && weekday == int(x.Weekday()) {
						checkUnix(t, dt, x.Unix(), true)
					} else {
						checkUnix(t, dt, 0, false)
					}
				}
			}
		}
		if t.Failed() {
			return
		}
	}
}

// P5.2: February 29 exists in leap years only, and no later day of February
// ever does.
func TestUnixEndOfFebruary(t *testing.T) {
	checkUnix(t, api.DateTime{Year: 2024, Month: 2, Day: 29, Weekday: 4}, 1709164800, true)
	checkUnix(t, api.DateTime{Year: 2000, Month: 2, Day: 29, Weekday: 2}, 951782400, true)
	for _, y := range []int{2023, 2025, 1900, 2100, 2200, 1970, 1, -1, -100, farYear - 1, 1 - farYear} {
		checkNever(t, api.DateTime{Year: y, Month: 2, Day: 29})
	}
	for _, y := range []int{2024, 2000, 0, -400, 2023} {
		checkNever(t, api.DateTime{Year: y, Month: 2, Day: 30})
		checkNever(t, api.DateTime{Year: y, Month: 2, Day: 31})
	}
}

// P5.2: of all weekdays only that of the date is right.
func TestUnixChecksTheWeekday(t *testing.T) {
	for _, x := range known() {
		right := x.dt.Weekday
		for _, other := range []int{math.MinInt, -7, -1, 0, 1, 2, 3, 4, 5, 6, 7, right - 7, right + 7, right + 70, math.MaxInt} {
			if other == right {
				continue
			}
			dt := x.dt
			dt.Weekday = other
			checkUnix(t, dt, 0, false)
		}
	}
}

// P5.2: the first and the last date-time that fits, and those beyond them: one
// second, the rest of the day, the next day, the ends of the year.
func TestUnixLimits(t *testing.T) {
	checkUnix(t, at(0, 292277026596, 12, 4, 15, 30, 7, 0).dt, math.MaxInt64, true)
	checkUnix(t, at(0, -292277022657, 1, 27, 8, 29, 52, 0).dt, math.MinInt64, true)
	for _, x := range []stamped{
		at(0, 292277026596, 12, 4, 15, 30, 8, 0),
		at(0, 292277026596, 12, 4, 15, 31, 0, 0),
		at(0, 292277026596, 12, 4, 16, 0, 0, 0),
		at(0, 292277026596, 12, 4, 23, 59, 59, 0),
		at(0, 292277026596, 12, 5, 0, 0, 0, 1),
		at(0, 292277026596, 12, 5, 15, 30, 7, 1),
		at(0, 292277026596, 12, 31, 23, 59, 59, 6),
		at(0, 292277026597, 1, 1, 0, 0, 0, 0),
		at(0, -292277022657, 1, 27, 8, 29, 51, 0),
		at(0, -292277022657, 1, 27, 8, 28, 59, 0),
		at(0, -292277022657, 1, 27, 7, 59, 59, 0),
		at(0, -292277022657, 1, 27, 0, 0, 0, 0),
		at(0, -292277022657, 1, 26, 23, 59, 59, 6),
		at(0, -292277022657, 1, 26, 8, 29, 52, 6),
		at(0, -292277022657, 1, 1, 0, 0, 0, 2),
		at(0, -292277022658, 12, 31, 23, 59, 59, 1),
	} {
		checkUnix(t, x.dt, 0, false)
	}
}

// P5.2 and P5.4: years whose timestamps do not fit, up to the ends of the
// domain and beyond them, and years whose days or seconds would wrap.
func TestUnixFarYears(t *testing.T) {
	checkUnix(t, at(0, farYear, 1, 1, 0, 0, 0, 1).dt, 0, false)
	checkUnix(t, at(0, -farYear, 12, 31, 23, 59, 59, 5).dt, 0, false)
	checkUnix(t, at(0, farYear+1, 1, 1, 0, 0, 0, 3).dt, 0, false)
	checkUnix(t, at(0, -farYear-1, 12, 31, 23, 59, 59, 3).dt, 0, false)
	list := []int{farYear, -farYear, farYear + 1, -farYear - 1, 292277026597, -292277022658, math.MaxInt, math.MaxInt - 1, math.MinInt, math.MinInt + 1}
	// 2^63 seconds are about this many years; after twice as many, seconds that
	// wrap would begin again at 1970.
	const span = 292277024627
	for d := -2; d <= 2; d++ {
		list = append(list, 1970+2*span+d, 1970-2*span+d, 1970+3*span+d, 1970-3*span+d)
	}
	for k := 40; k < 63; k++ {
		list = append(list, 1<<k+2000, -1<<k-2000, 1<<k, -1<<k)
	}
	for k := 1; k <= 400; k++ {
		list = append(list, 292277026597+k*(farYear-292277026597)/400, -292277022658-k*(farYear-292277022658)/400)
	}
	for _, y := range list {
		for _, x := range [][2]int{{1, 1}, {2, 28}, {3, 1}, {6, 30}, {12, 31}} {
			checkNever(t, api.DateTime{Year: y, Month: x[0], Day: x[1]})
			checkNever(t, api.DateTime{Year: y, Month: x[0], Day: x[1], Hour: 23, Minute: 59, Second: 59})
		}
	}
}

// P5.3: Unix recovers every timestamp from its date-time.
func TestUnixAfterOf(t *testing.T) {
	for _, at := range timestamps() {
		checkUnix(t, datetime.Of(at), at, true)
	}
}

// P5.3: Of recovers every valid date-time from its timestamp.
func TestOfAfterUnix(t *testing.T) {
	for _, base := range []int{-292277022400, -1000000, -800, 0, 1600, 2000, 1000000, 292277026000} {
		for y := base; y < base+400; y += 9 {
			for m := 1; m <= 12; m++ {
				for _, d := range []int{1, 11, 28} {
					hour, minute, second := (y-base)%24, (5*m+d)%60, (7*m+3*d)%60
					// The calendar of a year is that of the year 400 years later.
					same := time.Date(2000+y-base+base%400, time.Month(m), d, 0, 0, 0, 0, time.UTC)
					dt := at(0, y, m, d, hour, minute, second, int(same.Weekday())).dt
					got, ok := datetime.Unix(dt)
					if !ok || datetime.Of(got) != dt {
						t.Errorf("Unix(%+v) = %d, %v, and Of of it %+v", dt, got, ok, datetime.Of(got))
					}
				}
			}
		}
	}
}

// order compares date-times by year, then by month, and so on.
func order(a, b api.DateTime) int {
	return cmp.Or(
		cmp.Compare(a.Year, b.Year), cmp.Compare(a.Month, b.Month), cmp.Compare(a.Day, b.Day),
		cmp.Compare(a.Hour, b.Hour), cmp.Compare(a.Minute, b.Minute), cmp.Compare(a.Second, b.Second))
}

// P5.3: later timestamps have later date-times.
func TestOrder(t *testing.T) {
	list := timestamps()
	for i := 1; i < len(list); i++ {
		a, b := datetime.Of(list[i-1]), datetime.Of(list[i])
		if order(a, b) >= 0 {
			t.Errorf("Of(%d) = %+v is not before Of(%d) = %+v", list[i-1], a, list[i], b)
		}
	}
}

// P5.3: second by second over the ends of days, months and years.
func TestConsecutiveSeconds(t *testing.T) {
	for _, middle := range []int64{math.MinInt64 + 100000, -62162035200, -62135596800, 0, 951782400, 951868800, 1704067200, math.MaxInt64 - 100000} {
		before := datetime.Of(middle - 90001)
		for at := middle - 90000; at <= middle+90000; at++ {
			dt := datetime.Of(at)
			if dt != expected(at) || order(before, dt) >= 0 {
				t.Fatalf("Of(%d) = %+v after %+v, want %+v", at, dt, before, expected(at))
			}
			checkUnix(t, dt, at, true)
			before = dt
		}
	}
}

// P5.4: hours, minutes and seconds whose number of seconds would wrap round to
// one of this day, and others that would leave it.
func TestUnixDoesNotWrap(t *testing.T) {
	for _, x := range [][3]int{
		{1 << 60, 0, 0}, {-1 << 60, 0, 0}, {5 + 1<<60, 0, 0}, {1 << 62, 0, 0}, {math.MinInt, 0, 0},
		{0, 1 << 62, 0}, {0, -1 << 62, 0}, {0, 7 + 1<<62, 0}, {0, math.MinInt, 0},
		{0, 0, math.MinInt}, {0, 0, math.MaxInt}, {math.MaxInt, math.MaxInt, math.MaxInt}, {math.MinInt, math.MinInt, math.MinInt},
		{0, 1, -60}, {1, 0, -3600}, {1, -60, 0}, {1 << 60, 1 << 62, 0}, {1 << 60, -1 << 62, 9},
	} {
		checkNever(t, api.DateTime{Year: 1970, Month: 1, Day: 1, Hour: x[0], Minute: x[1], Second: x[2]})
		checkNever(t, api.DateTime{Year: 292277026596, Month: 12, Day: 4, Hour: x[0], Minute: x[1], Second: x[2]})
	}
}

// P5.2 and P5.4: every call ends without a panic, with wild numbers in several
// fields at once, and none of these date-times is valid.
func TestUnixWildFields(t *testing.T) {
	wild := []int{math.MinInt, -farYear - 1, -1, 60, 1 << 60, math.MaxInt}
	for _, y := range append(wild, 0, 2024) {
		for _, m := range wild {
			for _, d := range append(wild, 1) {
				for _, hour := range append(wild, 0) {
					checkUnix(t, api.DateTime{Year: y, Month: m, Day: d, Hour: hour}, 0, false)
					checkUnix(t, api.DateTime{Year: y, Month: 1, Day: 1, Hour: hour, Minute: m, Second: d}, 0, false)
				}
			}
		}
	}
	checkUnix(t, api.DateTime{}, 0, false)
}
