package civil_test

import (
	"math"
	"testing"
	"time"

	"zoneinfo/civil"
)

// farYear is the last year of the domain, -farYear the first one.
const farYear = 1 << 40

// dated is a date with its day number and weekday.
type dated struct {
	y, m, d      int
	day, weekday int
}

// known lists literal values that were computed outside of the program.
func known() []dated {
	return []dated{
		{1970, 1, 1, 0, 4}, {1970, 1, 2, 1, 5}, {1969, 12, 31, -1, 3}, {1969, 12, 30, -2, 2},
		{2000, 3, 1, 11017, 3}, {2000, 2, 29, 11016, 2}, {2000, 2, 28, 11015, 1},
		{2024, 2, 28, 19781, 3}, {2024, 2, 29, 19782, 4}, {2024, 3, 1, 19783, 5}, {2024, 3, 10, 19792, 0},
		{2026, 11, 18, 20775, 3},
		{1900, 2, 28, -25509, 3}, {1900, 3, 1, -25508, 4},
		{2100, 2, 28, 47540, 0}, {2100, 3, 1, 47541, 1},
		{2400, 2, 29, 157113, 2}, {1600, 1, 1, -135140, 6}, {1582, 10, 15, -141427, 5},
		{1, 1, 1, -719162, 1}, {0, 12, 31, -719163, 0},
		{0, 3, 1, -719468, 3}, {0, 2, 29, -719469, 2}, {0, 1, 1, -719528, 6},
		{-1, 12, 31, -719529, 5}, {-1, 1, 1, -719893, 5}, {-4, 2, 29, -720930, 4},
		{-100, 2, 28, -755994, 3}, {-100, 3, 1, -755993, 4},
		{-400, 1, 1, -865625, 6}, {-400, 2, 29, -865566, 2}, {-400, 3, 1, -865565, 3}, {-401, 12, 31, -865626, 5},
		{farYear, 1, 1, 401588374988448, 1}, {farYear, 2, 29, 401588374988507, 4}, {farYear, 12, 31, 401588374988813, 2},
		{-farYear, 1, 1, -401588376427504, 4}, {-farYear, 2, 29, -401588376427445, 0}, {-farYear, 12, 31, -401588376427139, 5},
	}
}

// leap goes by the year's place in its cycle of 400 years, not by divisors.
func leap(y int) bool {
	switch place := (y%400 + 400) % 400; place {
	case 100, 200, 300:
		return false
	default:
		return place&3 == 0
	}
}

func length(y, m int) int {
	switch m {
	case 2:
		if leap(y) {
			return 29
		}
		return 28
	case 4, 6, 9, 11:
		return 30
	}
	return 31
}

// next is the date after x: it counts on by one, and so needs no arithmetic
// with years.
func (x dated) next() dated {
	x.day++
	x.weekday++
	if x.weekday == 7 {
		x.weekday = 0
	}
	x.d++
	if x.d > length(x.y, x.m) {
		x.m, x.d = x.m+1, 1
	}
	if x.m > 12 {
		x.y, x.m = x.y+1, 1
	}
	return x
}

func checkDate(t *testing.T, x dated) {
	t.Helper()
	if got := civil.Days(x.y, x.m, x.d); got != x.day {
		t.Errorf("Days(%d, %d, %d) = %d, want %d", x.y, x.m, x.d, got, x.day)
	}
	if y, m, d := civil.Date(x.day); y != x.y || m != x.m || d != x.d {
		t.Errorf("Date(%d) = %d, %d, %d, want %d, %d, %d", x.day, y, m, d, x.y, x.m, x.d)
	}
	if got := civil.Weekday(x.day); got != x.weekday {
		t.Errorf("Weekday(%d) = %d, want %d", x.day, got, x.weekday)
	}
}

// walk checks consecutive dates from x on, and the day of each within its
// year, which x begins.
func walk(t *testing.T, x dated, days int) {
	t.Helper()
	yearDay := 0
	for range days {
		checkDate(t, x)
		if got := civil.YearDay(x.y, x.m, x.d); got != yearDay {
			t.Errorf("YearDay(%d, %d, %d) = %d, want %d", x.y, x.m, x.d, got, yearDay)
		}
		if t.Failed() {
			return
		}
		y := x.y
		x = x.next()
		yearDay++
		if x.y != y {
			yearDay = 0
		}
	}
}

// P4.1: years divisible by 4, by 100, by 400 and by none of them, on both
// sides of the year 0, and at the ends of the domain.
func TestIsLeapKnown(t *testing.T) {
	for _, y := range []int{0, 4, -4, 400, -400, 800, -800, 1600, 1904, 1972, 1996, 2000, 2024, 2400, -104, -2000, -2024, farYear, -farYear, farYear - 4, -farYear + 4} {
		if !civil.IsLeap(y) {
			t.Errorf("%d is no leap year", y)
		}
	}
	for _, y := range []int{1, -1, 2, -2, 3, -3, 5, 100, -100, 200, -200, 300, -300, 1700, 1800, 1900, 1970, 2001, 2002, 2023, 2100, -1900, -2023, farYear - 1, -farYear + 1, farYear - 76, -farYear + 76} {
		if civil.IsLeap(y) {
			t.Errorf("%d is a leap year", y)
		}
	}
}

// P4.1: all years of several cycles around the year 0 and before the ends of
// the domain.
func TestIsLeapEverywhere(t *testing.T) {
	for _, first := range []int{-1300, 1000, -farYear, farYear - 1299} {
		for y := first; y < first+1300; y++ {
			if got := civil.IsLeap(y); got != leap(y) {
				t.Errorf("IsLeap(%d) = %v", y, got)
			}
		}
	}
}

// P4.1: every month of common and leap years.
func TestMonthDays(t *testing.T) {
	common := []int{31, 28, 31, 30, 31, 30, 31, 31, 30, 31, 30, 31}
	for _, x := range []struct {
		y, february int
	}{
		{2023, 28}, {2024, 29}, {1900, 28}, {2000, 29}, {2100, 28}, {0, 29}, {1, 28}, {-1, 28}, {-4, 29},
		{-100, 28}, {-300, 28}, {-400, 29}, {farYear, 29}, {-farYear, 29}, {farYear - 1, 28}, {1 - farYear, 28},
	} {
		for i, want := range common {
			if i == 1 {
				want = x.february
			}
			if got := civil.MonthDays(x.y, i+1); got != want {
				t.Errorf("MonthDays(%d, %d) = %d, want %d", x.y, i+1, got, want)
			}
		}
	}
}

// P4.1: the first and the last day of every month, in common and leap years.
func TestYearDayOfMonthEnds(t *testing.T) {
	first := []int{0, 31, 59, 90, 120, 151, 181, 212, 243, 273, 304, 334}
	last := []int{30, 58, 89, 119, 150, 180, 211, 242, 272, 303, 333, 364}
	for _, y := range []int{2023, 2024, 1900, 2000, 0, -1, -4, -100, -400, farYear, -farYear, farYear - 1} {
		for i := range 12 {
			begin, end := first[i], last[i]
			if leap(y) && i > 1 {
				begin++
			}
			if leap(y) && i > 0 {
				end++
			}
			if got := civil.YearDay(y, i+1, 1); got != begin {
				t.Errorf("YearDay(%d, %d, 1) = %d, want %d", y, i+1, got, begin)
			}
			if got := civil.YearDay(y, i+1, length(y, i+1)); got != end {
				t.Errorf("YearDay(%d, %d, last) = %d, want %d", y, i+1, got, end)
			}
		}
	}
}

// P4.1: ordinary dates.
func TestYearDayKnown(t *testing.T) {
	for _, x := range []struct{ y, m, d, want int }{
		{2024, 1, 1, 0}, {2024, 1, 2, 1}, {2024, 2, 29, 59}, {2024, 3, 1, 60}, {2024, 3, 10, 69}, {2024, 12, 31, 365},
		{2023, 2, 28, 58}, {2023, 3, 1, 59}, {2023, 7, 4, 184}, {2023, 12, 31, 364},
		{1900, 3, 1, 59}, {2000, 3, 1, 60}, {0, 3, 1, 60}, {-1, 3, 1, 59}, {-400, 12, 31, 365}, {-100, 12, 31, 364},
	} {
		if got := civil.YearDay(x.y, x.m, x.d); got != x.want {
			t.Errorf("YearDay(%d, %d, %d) = %d, want %d", x.y, x.m, x.d, got, x.want)
		}
	}
}

// P4.2: literal values: the chapter's examples, the days around day 0,
// ordinary dates, February and March of all kinds of years, the turn of the
// year, the year 0, negative years and the first and last date of the domain.
func TestKnownDates(t *testing.T) {
	for _, x := range known() {
		checkDate(t, x)
	}
}

// P4.2: a week on each side of day 0, and multiples of 7 far away from it.
func TestWeekdays(t *testing.T) {
	want := []int{4, 5, 6, 0, 1, 2, 3, 4, 5, 6, 0, 1, 2, 3, 4}
	for i, weekday := range want {
		for _, weeks := range []int{0, 1, -1, 52, -52, 57369767855000, -57369767855000} {
			day := i - 7 + 7*weeks
			if got := civil.Weekday(day); got != weekday {
				t.Errorf("Weekday(%d) = %d, want %d", day, got, weekday)
			}
		}
	}
}

// P4.2: Days and Date as the library's package time has them, for every date
// on which a month of the year begins or ends, in years far apart.
func TestLibraryAgrees(t *testing.T) {
	for _, middle := range []int{-200000000000, -1 << 31, -1000000, -9999, -2000, 0, 1970, 9999, 1000000, 1 << 31, 200000000000} {
		for y := middle - 450; y <= middle+450; y++ {
			for m := 1; m <= 12; m++ {
				for _, d := range []int{1, 15, length(y, m)} {
					at := time.Date(y, time.Month(m), d, 0, 0, 0, 0, time.UTC)
					checkDate(t, dated{y, m, d, int(at.Unix() / 86400), int(at.Weekday())})
				}
			}
		}
		if t.Failed() {
			return
		}
	}
}

// P4.3: over many consecutive days Days and Date are inverse to each other and
// count on by one; so do the weekdays.
func TestConsecutiveDays(t *testing.T) {
	walk(t, dated{-800, 1, 1, -1011722, 6}, 8*146097+1000)
}

// P4.3: the same at the ends of the domain, from its first date and up to its
// last one.
func TestConsecutiveDaysAtTheEnds(t *testing.T) {
	walk(t, dated{-farYear, 1, 1, -401588376427504, 4}, 146097+1000)
	walk(t, dated{farYear - 424, 1, 1, 401588374833585, 6}, 155229)
	checkDate(t, dated{farYear, 12, 31, 401588374833585 + 155228, 2})
}

// P4.3: dates 400 years apart are 146097 days apart and have the same weekday,
// as far as the domain reaches.
func TestCycles(t *testing.T) {
	const most = farYear / 400
	for _, cycles := range []int{1, -1, 2, -2, 5, -5, 1000, -1000, 1 << 20, -1 << 20, most - 10, 10 - most} {
		for _, x := range known() {
			if x.y == farYear || x.y == -farYear {
				continue
			}
			x.y += 400 * cycles
			x.day += 146097 * cycles
			checkDate(t, x)
			if civil.IsLeap(x.y) != civil.IsLeap(x.y-400*cycles) {
				t.Errorf("IsLeap(%d) differs %d cycles later", x.y, cycles)
			}
		}
	}
	if got, want := civil.Days(farYear, 12, 31)-civil.Days(farYear-400, 12, 31), 146097; got != want {
		t.Errorf("the last cycle has %d days", got)
	}
}

// Months that do not exist have no days. The chapter leaves them open, and
// wild dates and day numbers, too; but no call may panic or go on for ever.
func TestOutsideTheDomain(t *testing.T) {
	wild := []int{math.MinInt, math.MinInt + 1, -farYear - 1, -1, 0, 1, 13, 14, 32, farYear + 1, math.MaxInt - 1, math.MaxInt}
	for _, y := range wild {
		for _, m := range wild {
			if got := civil.MonthDays(y, m); m != 1 && got != 0 {
				t.Errorf("MonthDays(%d, %d) = %d, want 0", y, m, got)
			}
			for _, d := range wild {
				civil.Days(y, m, d)
				civil.YearDay(y, m, d)
			}
		}
		civil.IsLeap(y)
		civil.Date(y)
		if got := civil.Weekday(y); got < 0 || got > 6 {
			t.Errorf("Weekday(%d) = %d", y, got)
		}
	}
}
