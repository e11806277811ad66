package hms_test

import (
	"fmt"
	"math"
	"regexp"
	"strconv"
	"strings"
	"testing"

	"zoneinfo/hms"
)

// outermost is 167:59:59.
const outermost = 604799

// The longest duration as a regular expression, which the program may not use.
// The hours are all leading digits, however many there are.
var longest = regexp.MustCompile(`^([+-]?)([0-9]+)(?::([0-5][0-9])(?::([0-5][0-9]))?)?`)

// value is that of the digits, 0 if there are none.
func value(digits string) int {
	n, _ := strconv.Atoi(digits)
	return n
}

// expected is what Parse returns.
func expected(s string) (int, int, bool) {
	m := longest.FindStringSubmatch(s)
	if m == nil || len(m[2]) > 3 || value(m[2]) > 167 {
		return 0, 0, false
	}
	sec := value(m[2])*3600 + value(m[3])*60 + value(m[4])
	if m[1] == "-" {
		sec = -sec
	}
	return sec, len(m[0]), true
}

func checkParse(t *testing.T, s string, want, wantSize int) {
	t.Helper()
	if sec, size, ok := hms.Parse(s); sec != want || size != wantSize || !ok {
		t.Errorf("Parse(%q) = %d, %d, %v, want %d, %d, true", s, sec, size, ok, want, wantSize)
	}
}

func checkNone(t *testing.T, s string) {
	t.Helper()
	if sec, size, ok := hms.Parse(s); sec != 0 || size != 0 || ok {
		t.Errorf("Parse(%q) = %d, %d, %v, want 0, 0, false", s, sec, size, ok)
	}
}

// checkExpected holds Parse against the regular expression.
func checkExpected(t *testing.T, s string) {
	t.Helper()
	if sec, size, ok := expected(s); ok {
		checkParse(t, s, sec, size)
	} else {
		checkNone(t, s)
	}
}

func checkFormat(t *testing.T, sec int, want string) {
	t.Helper()
	if got := hms.Format(sec); got != want {
		t.Errorf("Format(%d) = %q, want %q", sec, got, want)
	}
}

// P8.1: ordinary durations, with and without a sign.
func TestParse(t *testing.T) {
	for _, c := range []struct {
		s    string
		sec  int
		size int
	}{
		{"5", 18000, 1},
		{"+5", 18000, 2},
		{"-5", -18000, 2},
		{"12", 43200, 2},
		{"-100", -360000, 4},
		{"3:30", 12600, 4},
		{"+3:30", 12600, 5},
		{"-3:30", -12600, 5},
		{"03:30", 12600, 5},
		{"5:45:30", 20730, 7},
		{"+5:45:30", 20730, 8},
		{"-5:45:30", -20730, 8},
		{"0:00:01", 1, 7},
		{"-0:00:01", -1, 8},
		{"-0:01", -60, 5},
		{"167:59:59", outermost, 9},
		{"+167:59:59", outermost, 10},
		{"-167:59:59", -outermost, 10},
	} {
		checkParse(t, c.s, c.sec, c.size)
	}
}

// P8.1: the chapter's example.
func TestParseExample(t *testing.T) {
	checkParse(t, "-3:30,x", -12600, 5)
}

// P8.1: zero has no sign.
func TestParseZero(t *testing.T) {
	for _, s := range []string{"0", "-0", "+0", "000", "-00", "0:00", "-0:00", "+00:00", "00:00:00", "-000:00:00"} {
		checkParse(t, s, 0, len(s))
	}
}

// P8.1: the hours are all leading digits, 1 to 3 of them, with leading zeros
// too.
func TestParseDigits(t *testing.T) {
	for _, c := range []struct {
		s   string
		sec int
	}{
		{"7", 25200}, {"07", 25200}, {"007", 25200}, {"17", 61200}, {"017", 61200}, {"117", 421200},
	} {
		for sign, factor := range map[string]int{"": 1, "+": 1, "-": -1} {
			for _, tail := range []string{"", ",", ":", "x"} {
				checkParse(t, sign+c.s+tail, factor*c.sec, len(sign+c.s))
			}
		}
	}
	for _, s := range []string{"0007", "0000", "0167", "1670", "1000", "00000", "0001:30", "12345678901234567890", strings.Repeat("0", 1000)} {
		for _, sign := range []string{"", "+", "-"} {
			checkNone(t, sign+s)
			checkNone(t, sign+s+":30")
		}
	}
}

// P8.1: no hours, no duration.
func TestParseNoHours(t *testing.T) {
	for _, s := range []string{
		"", "+", "-", "++", "--", "+-", "-+", "++5", "--5", "+-5", "-+5", "+:30", "-:30", ":", ":30", ":30:30", "::",
		",", ",5", "x", "x5", " 5", "+ 5", "-x", "- 5", "/5", "é5", "\x005", "\xff5", "-\xff", ".5",
	} {
		checkNone(t, s)
	}
}

// P8.1: 167 hours are the most.
func TestParseHours(t *testing.T) {
	for hours := range 1000 {
		for _, digits := range []string{"%d", "%02d", "%03d"} {
			for _, sign := range []string{"", "+", "-"} {
				for _, tail := range []string{"", ":00", ":59:59", ":60"} {
					checkExpected(t, sign+fmt.Sprintf(digits, hours)+tail)
				}
			}
		}
	}
	checkParse(t, "167", 601200, 3)
	checkParse(t, "-167", -601200, 4)
	for _, s := range []string{"168", "+168", "-168", "168:00", "168:00:00", "-168:00:00", "200", "999", "-999:59:59"} {
		checkNone(t, s)
	}
}

// P8.1: minutes and seconds of 00 to 59 are consumed, others are left.
func TestParseSixtieths(t *testing.T) {
	for _, c := range []struct {
		s    string
		sec  int
		size int
	}{
		{"1:00", 3600, 4},
		{"1:59", 7140, 4},
		{"1:60", 3600, 1},
		{"1:99", 3600, 1},
		{"-1:60", -3600, 2},
		{"1:00:00", 3600, 7},
		{"1:00:59", 3659, 7},
		{"1:00:60", 3600, 4},
		{"1:59:59", 7199, 7},
		{"1:59:60", 7140, 4},
		{"1:59:99", 7140, 4},
		{"-1:59:60", -7140, 5},
		// What comes after minutes that are left is not looked at.
		{"1:60:00", 3600, 1},
		{"1:60:30", 3600, 1},
		{"1:x:30", 3600, 1},
		{"1::30", 3600, 1},
	} {
		checkParse(t, c.s, c.sec, c.size)
	}
	for n := range 100 {
		for m := range 100 {
			checkExpected(t, fmt.Sprintf("-7:%02d:%02d", n, m))
		}
	}
}

// P8.1: a colon that is not followed by two digits is left.
func TestParseColon(t *testing.T) {
	tails := []string{
		":", "::", ":3", ":3:", ":3:30", ":3,", ":3x", ":x3", ":xx", ":+3", ":-3", ":+30", ":-30", ": 3", ": 30", ":,",
		":3\xff", ":\xff3", ":\x00\x00", ":3/", ":/3", ":3;", ":;3", "30", ";30", ".30", "/30", ",30",
	}
	for _, tail := range tails {
		if tail != "30" {
			checkParse(t, "-2"+tail, -7200, 2)
			checkParse(t, "002"+tail, 7200, 3)
		}
		checkParse(t, "-2:15"+tail, -8100, 5)
		checkParse(t, "2:15:01"+tail, 8101, 7)
	}
}

// P8.1: a field has two digits, and there are two of them.
func TestParseEnd(t *testing.T) {
	checkParse(t, "5:300", 19800, 4)
	checkParse(t, "5:30:456", 19845, 7)
	checkParse(t, "5:600", 18000, 1)
	checkParse(t, "5:30:600", 19800, 4)
	checkParse(t, "5:30:45:15", 19845, 7)
	checkParse(t, "5:30:45:", 19845, 7)
	checkParse(t, "5:30:45:15:15", 19845, 7)
}

// P8.1: what follows a duration is left, whichever byte it is. A digit behind
// the hours belongs to them.
func TestParseFollowed(t *testing.T) {
	for c := range 256 {
		b := string([]byte{byte(c)})
		digit := '0' <= c && c <= '9'
		if digit {
			checkNone(t, "123"+b)
			checkParse(t, "-1"+b, -36000-3600*(c-'0'), 3)
		} else {
			checkParse(t, "123"+b, 442800, 3)
			checkParse(t, "-1"+b, -3600, 2)
		}
		for _, tail := range []string{"", "0", "30", ":30", "\x80"} {
			checkParse(t, "1:30"+b+tail, oneThirty(b+tail), len("1:30")+len(eaten(b+tail)))
			checkParse(t, "1:30:15"+b+tail, 5415, 7)
		}
	}
}

// eaten is the beginning of tail that is seconds.
func eaten(tail string) string {
	if strings.HasPrefix(tail, ":30") {
		return ":30"
	}
	return ""
}

// oneThirty is the value of 1:30 with the seconds at the beginning of tail.
func oneThirty(tail string) int {
	if eaten(tail) != "" {
		return 5430
	}
	return 5400
}

// P8.1: all short strings of the bytes that matter, and the bytes beside them.
func TestParseShort(t *testing.T) {
	const bytes = "+-:01569x"
	var walk func(s string, more int)
	walk = func(s string, more int) {
		checkExpected(t, s)
		if more == 0 {
			return
		}
		for i := range bytes {
			walk(s+bytes[i:i+1], more-1)
		}
	}
	walk("", 5)
	walk("1:", 4)
	walk("-16", 4)
	walk("+1:05", 4)
}

// P8.1: every byte at every place.
func TestParseBytes(t *testing.T) {
	for _, s := range []string{"5", "-05", "+123", "-3:30", "12:34:56", "-167:59:59,x"} {
		for i := range s {
			for c := range 256 {
				b := []byte(s)
				b[i] = byte(c)
				checkExpected(t, string(b))
				checkExpected(t, s[:i]+string([]byte{byte(c)})+s[i:])
			}
			checkExpected(t, s[:i])
			checkExpected(t, s[i:])
		}
	}
}

// P8.1: only ASCII digits are digits.
func TestParseForeignDigits(t *testing.T) {
	for _, s := range []string{"٣", "-３", "²", "\xb2"} {
		checkNone(t, s)
	}
	checkParse(t, "3٣", 10800, 1)
	checkParse(t, "3:３0", 10800, 1)
	checkParse(t, "3:30:\xb30", 12600, 4)
}

// P8.2: the range ends at 167:59:59 on both sides.
func TestInRange(t *testing.T) {
	for sec, want := range map[int]bool{
		-outermost - 1:  false,
		-outermost:      true,
		-outermost + 1:  true,
		-1:              true,
		0:               true,
		1:               true,
		outermost - 1:   true,
		outermost:       true,
		outermost + 1:   false,
		1 << 31:         false,
		-1 << 31:        false,
		1 << 32:         false,
		-1 << 32:        false,
		math.MinInt:     false,
		math.MinInt + 1: false,
		math.MaxInt:     false,
	} {
		if got := hms.InRange(sec); got != want {
			t.Errorf("InRange(%d) = %v, want %v", sec, got, want)
		}
	}
	for sec := -2 * outermost; sec <= 2*outermost; sec++ {
		if want := sec >= -outermost && sec <= outermost; hms.InRange(sec) != want {
			t.Fatalf("InRange(%d) = %v, want %v", sec, !want, want)
		}
	}
}

// P8.2: the canonical form, and the chapter's example.
func TestFormat(t *testing.T) {
	for sec, want := range map[int]string{
		-12600:     "-3:30",
		0:          "0",
		1:          "0:00:01",
		-1:         "-0:00:01",
		10:         "0:00:10",
		59:         "0:00:59",
		60:         "0:01",
		-60:        "-0:01",
		61:         "0:01:01",
		599:        "0:09:59",
		600:        "0:10",
		3540:       "0:59",
		3599:       "0:59:59",
		3600:       "1",
		-3600:      "-1",
		3601:       "1:00:01",
		18000:      "5",
		36000:      "10",
		-36000:     "-10",
		360000:     "100",
		20730:      "5:45:30",
		601200:     "167",
		outermost:  "167:59:59",
		-outermost: "-167:59:59",
	} {
		checkFormat(t, sec, want)
	}
}

// P8.2 and P8.3: every duration in range has its canonical form, which is
// parsed back with everything consumed, alone and in front of something else.
func TestFormatParse(t *testing.T) {
	sec := 0
	for hours := range 168 {
		for minutes := range 60 {
			for seconds := range 60 {
				want := fmt.Sprintf("%d:%02d:%02d", hours, minutes, seconds)
				want = strings.TrimSuffix(strings.TrimSuffix(want, ":00"), ":00")
				checkPair(t, sec, want)
				if sec != 0 {
					checkPair(t, -sec, "-"+want)
				}
				sec++
			}
		}
	}
	if sec != outermost+1 {
		t.Errorf("%d durations, want %d", sec, outermost+1)
	}
}

func checkPair(t *testing.T, sec int, want string) {
	t.Helper()
	if !hms.InRange(sec) {
		t.Errorf("InRange(%d) = false, want true", sec)
	}
	checkFormat(t, sec, want)
	checkParse(t, hms.Format(sec), sec, len(want))
	checkParse(t, hms.Format(sec)+",", sec, len(want))
}

// Format of a number that is out of range is not specified, but it does not
// panic.
func TestUnspecified(t *testing.T) {
	for _, sec := range []int{math.MinInt, math.MinInt + 1, -outermost - 1, outermost + 1, math.MaxInt - 1, math.MaxInt} {
		hms.Format(sec)
	}
}
