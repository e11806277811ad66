package tzname_test

import (
	"regexp"
	"strings"
	"testing"
	"unicode/utf8"
	"unsafe"

	"zoneinfo/tzname"
)

const (
	upper   = "ABCDEFGHIJKLMNOPQRSTUVWXYZ"
	lower   = "abcdefghijklmnopqrstuvwxyz"
	letters = upper + lower
	// allowed holds the bytes of designations.
	allowed = letters + "0123456789+-"
)

func isLetter(c byte) bool { return strings.IndexByte(letters, c) >= 0 }

func isAllowed(c byte) bool { return strings.IndexByte(allowed, c) >= 0 }

// one is the string of the byte c, which is not the one of the character c.
func one(c byte) string { return string([]byte{c}) }

// The syntax as regular expressions, which the program may not use.
var (
	plainForm  = regexp.MustCompile(`^[A-Za-z0-9+-]{3,255}\z`)
	quotedForm = regexp.MustCompile(`^<([A-Za-z0-9+-]{3,255})>`)
	bareForm   = regexp.MustCompile(`^[A-Za-z]+`)
)

// expected is what Parse returns.
func expected(s string) (string, int, bool) {
	if m := quotedForm.FindStringSubmatch(s); m != nil {
		return m[1], len(m[0]), true
	}
	if name := bareForm.FindString(s); plainForm.MatchString(name) {
		return name, len(name), true
	}
	return "", 0, false
}

func checkValid(t *testing.T, name string, want bool) {
	t.Helper()
	if got := tzname.Valid(name); got != want {
		t.Errorf("Valid(%q) = %v, want %v", name, got, want)
	}
}

func checkParse(t *testing.T, s, want string, wantSize int) {
	t.Helper()
	if got, size, ok := tzname.Parse(s); got != want || size != wantSize || !ok {
		t.Errorf("Parse(%q) = %q, %d, %v, want %q, %d, true", s, got, size, ok, want, wantSize)
	}
}

func checkNone(t *testing.T, s string) {
	t.Helper()
	if got, size, ok := tzname.Parse(s); got != "" || size != 0 || ok {
		t.Errorf("Parse(%q) = %q, %d, %v, want \"\", 0, false", s, got, size, ok)
	}
}

func checkFormat(t *testing.T, name, want string) {
	t.Helper()
	if got := tzname.Format(name); got != want {
		t.Errorf("Format(%q) = %q, want %q", name, got, want)
	}
}

// checkBoth holds Valid and Parse against the regular expressions.
func checkBoth(t *testing.T, s string) {
	t.Helper()
	checkValid(t, s, plainForm.MatchString(s))
	if name, size, ok := expected(s); ok {
		checkParse(t, s, name, size)
	} else {
		checkNone(t, s)
	}
}

// bareNames consist of letters only.
func bareNames() []string {
	return []string{
		"EST", "EDT", "UTC", "CEST", "ABC", "xyz", "AAA", "ZZZ", "aaa", "zzz", "aZA", letters,
		strings.Repeat("A", 254), strings.Repeat("z", 255), (letters + letters + letters + letters + letters)[:255],
	}
}

// quotedNames hold at least one byte that is not a letter.
func quotedNames() []string {
	return []string{
		"+03", "-03", "+0330", "-0330", "000", "999", "+++", "---", "+-+", "EST5", "5EST", "E5T", "ES+", "-ST", "E-T", "A0a", allowed,
		"+" + strings.Repeat("A", 254), strings.Repeat("z", 254) + "9", strings.Repeat("0", 255), strings.Repeat("-", 254),
	}
}

// outside holds bytes above 127: characters of UTF-8 whose numbers end in the
// bits of allowed bytes, letters beyond ASCII, bytes that are no UTF-8, and
// characters of which only a part is there.
func outside() []string {
	list := []string{
		"é", "Å", "ß", "ſ", "\u212a", "Ａ", "０", "＋", "−", "＜", "＞", "界", "\ufffd", "\U0001f550", "\U0010ffff",
		"\x80", "\xbf", "\xc0", "\xc1", "\xfe", "\xff", "\xc3", "\xa9", "\xe2\x84", "\xf0\x9f\x95", "\xc1\x81", "\xe0\x81\x81", "\xed\xa0\x80", "\xf4\x90\x80\x80",
	}
	for i := range len(allowed) {
		c := rune(allowed[i])
		list = append(list, string(0x80+c), string(0x100+c), string(0x4100+c), string(0x10000+c), one(0x80+allowed[i]))
	}
	return list
}

// P7.1: every byte is an ASCII letter or not.
func TestIsAlpha(t *testing.T) {
	for c := range 256 {
		if got, want := tzname.IsAlpha(byte(c)), isLetter(byte(c)); got != want {
			t.Errorf("IsAlpha(%#x) = %v, want %v", c, got, want)
		}
	}
	for _, c := range []byte("AMZamz") {
		if !tzname.IsAlpha(c) {
			t.Errorf("IsAlpha(%q) = false", c)
		}
	}
	for _, c := range []byte("@[`{09+-<>, \x00\x7f\x80\xc1\xda\xe1\xfa\xff") {
		if tzname.IsAlpha(c) {
			t.Errorf("IsAlpha(%#x) = true", c)
		}
	}
}

// P7.1: designations of letters only and of other bytes.
func TestValid(t *testing.T) {
	for _, name := range append(bareNames(), quotedNames()...) {
		checkValid(t, name, true)
	}
	for _, name := range []string{
		"<EST>", "<+03>", "EST,", ",EST", "E T", " EST", "EST ", "EST\n", "EST\x00", "\x00\x00\x00", "E_T", "E/T", "E:T", "E.T", "<ES", "ES>", "<<<", ">>>", "   ", ",,,",
	} {
		checkValid(t, name, false)
	}
}

// P7.1: a designation has 3 to 255 bytes, of whatever kind.
func TestValidLength(t *testing.T) {
	checkValid(t, "", false)
	for i := range len(allowed) {
		for size := range 260 {
			checkValid(t, strings.Repeat(one(allowed[i]), size), 3 <= size && size <= 255)
		}
	}
	for _, size := range []int{511, 512, 513, 1<<16 + 2, 1<<16 + 3, 1 << 20} {
		checkValid(t, strings.Repeat("A", size), false)
		checkValid(t, strings.Repeat("0", size), false)
	}
}

// P7.1: every byte at each place of a name.
func TestValidBytes(t *testing.T) {
	for c := range 256 {
		x := one(byte(c))
		want := isAllowed(byte(c))
		for _, name := range []string{x + "ST", "E" + x + "T", "ES" + x, x + "03", "+" + x + "3", "+0" + x, x + x + x, "ABCD" + x + "FGH"} {
			checkValid(t, name, want)
		}
		for _, size := range []int{0, 1, 127, 253, 254} {
			checkValid(t, strings.Repeat("A", size)+x+strings.Repeat("1", 254-size), want)
		}
	}
}

// P7.1: bytes above 127 are no letters, well formed in UTF-8 or not. Lengths
// count bytes: there are names of three characters and of 255 bytes here.
func TestValidOutside(t *testing.T) {
	for _, x := range outside() {
		for _, name := range []string{x, x + x + x, x + "ST", "E" + x + "T", "ES" + x, "EST" + x, x + "EST", "+0" + x + "3", strings.Repeat("A", 255-len(x)) + x} {
			checkValid(t, name, false)
		}
	}
}

// P7.2: the chapter's examples.
func TestExamples(t *testing.T) {
	checkParse(t, "<+03>-3", "+03", 5)
	checkParse(t, "EST5", "EST", 3)
}

// P7.2: forms of which something else of a rule, or nothing, follows. A bare
// form goes on as long as letters do.
func TestParse(t *testing.T) {
	for _, rest := range []string{"", "5", "0", "+5", "-5:30", "<EDT>", ">", ",M3.2.0", ",", " ", "\x00", "é", "\xff", "5EDT,M3.2.0,M11.1.0"} {
		for _, name := range bareNames() {
			checkParse(t, name+rest, name, len(name))
			checkParse(t, "<"+name+">"+rest, name, len(name)+2)
		}
		for _, name := range quotedNames() {
			checkParse(t, "<"+name+">"+rest, name, len(name)+2)
		}
	}
	checkParse(t, "ESTEDT4", "ESTEDT", 6)
	checkParse(t, "<EST>EDT", "EST", 5)
	checkParse(t, "<EST>>", "EST", 5)
	checkParse(t, "<-05>5<-04>,M3.2.0,M11.1.0", "-05", 5)
	checkParse(t, "EST<EDT>", "EST", 3)
}

// P7.2: what begins with neither form.
func TestParseNone(t *testing.T) {
	for _, s := range []string{
		"", "5", "5EST", "+03", "-03", "000", ">", ">EST", ">EST>", ",", ",EST", " EST", " <EST>", "\x00EST", "E5T", "ES+EST", "E<ST>", "ES<EST>", "A", "AB", "AB5", "AB,", "AB<ABC>",
	} {
		checkNone(t, s)
	}
}

// P7.2: a quoted form that has no end, or holds no designation up to the first
// '>', is not read as any other form, nor up to a later '>'.
func TestParseBadQuotes(t *testing.T) {
	for _, s := range []string{
		"<", "<>", "<>>", "<>EST>", "<A>", "<AB>", "<+3>", "<AB>C>", "<AB>CDE", "<A>BCDE>", "<A>EST", "<EST", "<+03", "<+03-3", "<+03,", "<EST5EDT,M3.2.0,M11.1.0",
		"<<EST>", "<<EST>>", "<<<", "<E<T>", "<ES<>", "<EST<>", "<EST<EDT>", "< EST>", "<EST >", "<E T>", "<EST,EDT>", "<EST\n>", "<\x00\x00\x00>", "<+03:30>", "<E_T>",
	} {
		checkNone(t, s)
	}
}

// P7.2: every byte in a form and behind it. The byte 'A' behind a bare form
// belongs to it.
func TestParseBytes(t *testing.T) {
	for c := range 256 {
		x := one(byte(c))
		for _, s := range []string{x, x + "ST", "E" + x + "T", "ES" + x, "EST" + x, "EST" + x + "5", x + "EST", x + "EST>"} {
			checkBoth(t, s)
		}
		for _, inside := range []string{x + "ST", "E" + x + "T", "ES" + x, "+0" + x, "EST" + x, x + x + x} {
			checkBoth(t, "<"+inside)
			checkBoth(t, "<"+inside+">")
			checkBoth(t, "<"+inside+">5")
			if byte(c) != '>' && !isAllowed(byte(c)) {
				checkNone(t, "<"+inside+">")
			}
		}
		if isLetter(byte(c)) {
			checkParse(t, "EST"+x, "EST"+x, 4)
		} else {
			checkParse(t, "EST"+x, "EST", 3)
		}
		checkParse(t, "<EST>"+x, "EST", 5)
	}
}

// P7.2: no form has fewer than 3 or more than 255 bytes inside. A longer one
// is not cut down to a designation.
func TestParseLength(t *testing.T) {
	for i := range len(allowed) {
		x := one(allowed[i])
		for size := range 260 {
			name := strings.Repeat(x, size)
			if quoted := "<" + name + ">"; 3 <= size && size <= 255 {
				checkParse(t, quoted, name, size+2)
				checkParse(t, quoted+name, name, size+2)
			} else {
				checkNone(t, quoted)
				checkNone(t, quoted+"EST")
			}
			checkNone(t, "<"+name)
			if isLetter(allowed[i]) && 3 <= size && size <= 255 {
				checkParse(t, name, name, size)
				checkParse(t, name+"5", name, size)
			} else {
				checkNone(t, name)
				checkNone(t, name+",EST")
			}
		}
	}
	for _, size := range []int{511, 512, 513, 1<<16 + 3, 1 << 20} {
		checkNone(t, strings.Repeat("A", size))
		checkNone(t, "<"+strings.Repeat("A", size)+">")
		checkNone(t, "<"+strings.Repeat("A", size))
	}
}

// P7.2: bytes above 127 end a bare form and have no place in a quoted one.
func TestParseOutside(t *testing.T) {
	for _, x := range outside() {
		for _, s := range []string{x, x + x + x, x + "EST", "ES" + x, "ES" + x + "T", "E" + x + "ST", "<" + x + ">", "<" + x + x + x + ">", "<ES" + x + ">", "<ES" + x + "T>", "<EST" + x + ">", "<" + x + "EST>", "<EST" + x, x + "<EST>"} {
			checkNone(t, s)
		}
		checkParse(t, "EST"+x, "EST", 3)
		checkParse(t, "EST"+x+"EDT", "EST", 3)
		checkParse(t, "<+03>"+x, "+03", 5)
	}
}

// P7.1, P7.2: all strings of up to 6 bytes of every kind.
func TestShortStrings(t *testing.T) {
	const kinds = "Az0+<>,\xc3\xa9"
	strs := []string{""}
	for size := 0; size <= 6; size++ {
		var longer []string
		for _, s := range strs {
			checkBoth(t, s)
			for i := 0; i < len(kinds) && size < 6; i++ {
				longer = append(longer, s+kinds[i:i+1])
			}
		}
		strs = longer
	}
}

// P7.3: letters stand alone, everything else is quoted.
func TestFormat(t *testing.T) {
	for _, name := range bareNames() {
		checkFormat(t, name, name)
	}
	for _, name := range quotedNames() {
		checkFormat(t, name, "<"+name+">")
	}
	for i := range len(allowed) {
		x := one(allowed[i])
		for _, name := range []string{x + "ST", "E" + x + "T", "ES" + x, x + x + x, x + strings.Repeat("A", 254), strings.Repeat("z", 254) + x} {
			if isLetter(allowed[i]) {
				checkFormat(t, name, name)
			} else {
				checkFormat(t, name, "<"+name+">")
			}
		}
	}
}

// P7.4: Parse reads back what Format writes, and stops at its end, unless
// letters follow the bare form.
func TestRoundTrip(t *testing.T) {
	names := append(bareNames(), quotedNames()...)
	for size := 3; size <= 255; size++ {
		for start := range len(allowed) {
			names = append(names, strings.Repeat(allowed[start:]+allowed[:start], 5)[:size])
		}
	}
	for _, name := range names {
		form := tzname.Format(name)
		for _, rest := range []string{"", "0", "5", "+3", "-3", "<EDT>4", ">", ",", " ", "\x00", "é", "\xff"} {
			checkParse(t, form+rest, name, len(form))
		}
		if strings.HasPrefix(form, "<") {
			checkParse(t, form+"EDT", name, len(form))
		}
	}
}

// P7.4: what Format writes for a name that Parse returned is the bare form
// where that exists, even if the name was quoted.
func TestQuotedLetters(t *testing.T) {
	for _, name := range bareNames() {
		got, _, _ := tzname.Parse("<" + name + ">5")
		checkFormat(t, got, name)
	}
}

// shares reports whether two strings lie in the same memory.
func shares(a, b string) bool {
	first, other := uintptr(unsafe.Pointer(unsafe.StringData(a))), uintptr(unsafe.Pointer(unsafe.StringData(b)))
	return first < other+uintptr(len(b)) && other < first+uintptr(len(a))
}

// Results do not share memory with arguments: DOC.md, rule 5.
func TestResultsAreNew(t *testing.T) {
	for _, s := range []string{"EST5EDT", "<+03>-3", "<EST>5", strings.Repeat("A", 255)} {
		if name, _, ok := tzname.Parse(s); !ok || shares(name, s) {
			t.Errorf("Parse(%q) = %q, %v shares memory", s, name, ok)
		}
	}
	for _, name := range []string{"EST", "+03", strings.Repeat("A", 255)} {
		if form := tzname.Format(name); shares(form, name) {
			t.Errorf("Format(%q) = %q shares memory", name, form)
		}
	}
}

// No call panics, whatever it is given: LANGUAGE.md, rule 4.
func TestUnspecified(t *testing.T) {
	for _, x := range append(outside(), "", "<", ">", "<>", "A", "AB", "<EST>", strings.Repeat("A", 256), "\x00") {
		tzname.Format(x)
		tzname.Format(x + x)
		tzname.Format("EST" + x)
	}
}

// The names of outside are what they are said to be: all of them hold bytes
// above 127, and some are well formed in UTF-8.
func TestOutside(t *testing.T) {
	formed := 0
	for _, x := range outside() {
		if strings.IndexFunc(x, func(r rune) bool { return r < 0x80 }) >= 0 {
			t.Errorf("%q holds ASCII", x)
		}
		if utf8.ValidString(x) {
			formed++
		}
	}
	if formed == 0 || formed == len(outside()) {
		t.Errorf("%d of %d strings are well formed", formed, len(outside()))
	}
}
