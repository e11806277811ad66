package desigs_test

import (
	"bytes"
	"math"
	"slices"
	"strconv"
	"strings"
	"testing"
	"unsafe"

	"zoneinfo/desigs"
)

// allowed holds the bytes of tables besides NUL.
const allowed = "ABCDEFGHIJKLMNOPQRSTUVWXYZabcdefghijklmnopqrstuvwxyz0123456789+-"

func isAllowed(c byte) bool { return c == 0 || strings.IndexByte(allowed, c) >= 0 }

// one is the string of the byte c, which is not the one of the character c.
func one(c byte) string { return string([]byte{c}) }

func checkBad(t *testing.T, table string, want int) {
	t.Helper()
	if got := desigs.Bad([]byte(table)); got != want {
		t.Errorf("Bad(%q) = %d, want %d", table, got, want)
	}
	if got := desigs.Valid([]byte(table)); got != (want == -1) {
		t.Errorf("Valid(%q) = %v, want %v", table, got, want == -1)
	}
}

func checkName(t *testing.T, table string, i int, want string) {
	t.Helper()
	if got, ok := desigs.Name([]byte(table), i); got != want || !ok {
		t.Errorf("Name(%q, %d) = %q, %v, want %q, true", table, i, got, ok, want)
	}
}

func checkNoName(t *testing.T, table string, i int) {
	t.Helper()
	if got, ok := desigs.Name([]byte(table), i); got != "" || ok {
		t.Errorf("Name(%q, %d) = %q, %v, want \"\", false", table, i, got, ok)
	}
}

// checkBuild holds the results of Build against the expected ones, and asks
// whether the table is valid and has each name at its index.
func checkBuild(t *testing.T, names []string, want string, wantAt []int) {
	t.Helper()
	table, at := desigs.Build(names)
	if string(table) != want || !slices.Equal(at, wantAt) {
		t.Fatalf("Build(%.300q) = %.300q, %.300v, want %.300q, %.300v", names, table, at, want, wantAt)
	}
	if !desigs.Valid(table) || desigs.Bad(table) != -1 {
		t.Errorf("Build(%.300q) = %.300q is not valid: Bad is %d", names, table, desigs.Bad(table))
	}
	for i, name := range names {
		if got, ok := desigs.Name(table, at[i]); got != name || !ok {
			t.Errorf("Name(%.300q, %d) = %.300q, %v, want %.300q, true", table, at[i], got, ok, name)
		}
	}
}

// P12.1: valid tables.
func TestValidTables(t *testing.T) {
	for _, table := range []string{
		"\x00", "\x00\x00", "\x00\x00\x00", strings.Repeat("\x00", 300),
		"EST\x00", "EST\x00EDT\x00", "LMT\x00EST\x00EDT\x00EWT\x00EPT\x00", "UTC\x00", "+03\x00-03\x00", "-0330\x00", "\x00EST\x00", "EST\x00\x00", "EST\x00\x00EDT\x00", "A\x00", "z\x00b\x00", "0\x00", "+\x00-\x00", "+-+-\x00",
		allowed + "\x00", "\x00" + allowed + "\x00", strings.Repeat("A", 300) + "\x00", strings.Repeat("EST\x00", 10000),
	} {
		checkBad(t, table, -1)
	}
}

// P12.1: the empty table is bad at its beginning.
func TestEmptyTable(t *testing.T) {
	checkBad(t, "", 0)
	if desigs.Valid(nil) || desigs.Bad(nil) != 0 {
		t.Errorf("of nil Valid is %v and Bad %d", desigs.Valid(nil), desigs.Bad(nil))
	}
	if unused := []byte("EST\x00")[:0]; desigs.Valid(unused) || desigs.Bad(unused) != 0 {
		t.Errorf("of an empty part Valid is %v and Bad %d", desigs.Valid(unused), desigs.Bad(unused))
	}
}

// P12.1: where only the final NUL is missing, Bad is the length, even if a NUL
// is the next byte in memory.
func TestMissingNul(t *testing.T) {
	for _, table := range []string{"A", "EST", "EST\x00E", "EST\x00EDT", "\x00E", "\x00\x00+", "-03", "+", "-", "0", allowed, strings.Repeat("z", 300), strings.Repeat("EST\x00", 100) + "EST"} {
		checkBad(t, table, len(table))
		whole := []byte(table + "\x00")
		if part := whole[:len(table)]; desigs.Valid(part) || desigs.Bad(part) != len(table) {
			t.Errorf("of %q Valid is %v and Bad %d", part, desigs.Valid(part), desigs.Bad(part))
		}
	}
}

// P12.1: every byte value at every place of a table.
func TestEveryByteAtEveryPlace(t *testing.T) {
	for c := range 256 {
		x := one(byte(c))
		for _, table := range []string{"\x00", "EST\x00", "EST\x00EDT\x00", "\x00\x00EST\x00\x00", strings.Repeat("+03\x00", 30)} {
			for i := range len(table) {
				changed := table[:i] + x + table[i+1:]
				switch {
				case !isAllowed(byte(c)):
					checkBad(t, changed, i)
				case c != 0 && i == len(table)-1:
					checkBad(t, changed, len(table))
				default:
					checkBad(t, changed, -1)
				}
			}
		}
	}
}

// P12.1: the bytes just outside of the ranges of allowed ones, and others that
// names of other kinds may have.
func TestNotAllowed(t *testing.T) {
	for _, c := range []byte("@[`{/:*,.\x01 \x7f\x80\xff!_<>'\"\\~\t\n\r;=?#%&()|}^]$\xc1\xda\xe1\xfa\xb0\xab\xad") {
		checkBad(t, one(c)+"\x00", 0)
		checkBad(t, "EST\x00E"+one(c)+"T\x00", 5)
		checkBad(t, "EST\x00"+one(c), 4)
		checkBad(t, "EST"+one(c), 3)
		checkBad(t, one(c), 0)
	}
	for _, s := range []string{"é", "Å", "ſ", "Ａ", "０", "−", "\u0141", "\u0100", "\U00010041"} {
		checkBad(t, s+"\x00", 0)
		checkBad(t, "EST\x00"+s+"\x00", 4)
		checkBad(t, "EST\x00"+s, 4)
	}
}

// P12.1: of several bytes that are not allowed the first one counts, whether or
// not the final NUL is there.
func TestFirstBadByte(t *testing.T) {
	const table = "EST\x00EDT\x00-00\x00"
	for i := range len(table) {
		for k := i; k < len(table); k++ {
			for _, two := range []string{"!!", " \xff", "\xff ", "\x01@", "@\x01", "\x80/"} {
				changed := []byte(table)
				changed[k] = two[1]
				changed[i] = two[0]
				checkBad(t, string(changed), i)
				checkBad(t, string(changed)+"EST", i)
				checkBad(t, string(changed[:k+1]), i)
			}
		}
	}
	for size := range 20 {
		checkBad(t, strings.Repeat("A", size)+strings.Repeat("!", 5), size)
		checkBad(t, strings.Repeat("\x00", size)+strings.Repeat("!", 5)+"\x00", size)
	}
}

// allTables returns all tables of up to five bytes, with one byte of each kind.
func allTables() []string {
	const kinds = "\x00Az0+-!\xc1"
	list := []string{""}
	for first, size := 0, 1; size <= 5; size++ {
		last := len(list)
		for ; first < last; first++ {
			for i := range len(kinds) {
				list = append(list, list[first]+kinds[i:i+1])
			}
		}
	}
	return list
}

// expectedBad asks for the definition's parts one by one.
func expectedBad(table string) int {
	for i := range len(table) {
		if !isAllowed(table[i]) {
			return i
		}
	}
	if table == "" || table[len(table)-1] != 0 {
		return len(table)
	}
	return -1
}

// P12.1, P12.2: all short tables; the names of the valid ones at each index.
func TestAllShortTables(t *testing.T) {
	valid := 0
	for _, table := range allTables() {
		want := expectedBad(table)
		checkBad(t, table, want)
		if want != -1 {
			continue
		}
		valid++
		for i := range len(table) {
			name := table[i:]
			checkName(t, table, i, name[:strings.IndexByte(name, 0)])
		}
		checkNoName(t, table, -1)
		checkNoName(t, table, len(table))
	}
	// One NUL after up to four bytes of the six kinds that are allowed.
	if valid != 1+6+36+216+1296 {
		t.Errorf("%d of the tables are valid", valid)
	}
}

// P12.2: the name at every index; one that starts in the middle of another one
// is a name, and so is the empty one at each NUL.
func TestNameAtEveryIndex(t *testing.T) {
	for _, x := range []struct {
		table string
		names []string
	}{
		{"\x00", []string{""}},
		{"\x00\x00\x00", []string{"", "", ""}},
		{"A\x00", []string{"A", ""}},
		{"EST\x00", []string{"EST", "ST", "T", ""}},
		{"EST\x00EDT\x00", []string{"EST", "ST", "T", "", "EDT", "DT", "T", ""}},
		{"\x00EST\x00", []string{"", "EST", "ST", "T", ""}},
		{"EST\x00\x00", []string{"EST", "ST", "T", "", ""}},
		{"EST\x00\x00\x00+03\x00", []string{"EST", "ST", "T", "", "", "", "+03", "03", "3", ""}},
		{"-0330\x00A\x00", []string{"-0330", "0330", "330", "30", "0", "", "A", ""}},
		{"EST\x00ST\x00T\x00", []string{"EST", "ST", "T", "", "ST", "T", "", "T", ""}},
	} {
		for i, name := range x.names {
			checkName(t, x.table, i, name)
		}
		if len(x.names) != len(x.table) {
			t.Errorf("%d names of %q are held against it", len(x.names), x.table)
		}
	}
}

// P12.2: names of all bytes that are allowed, and long ones.
func TestNameBytes(t *testing.T) {
	for i := range len(allowed) {
		checkName(t, allowed+"\x00", i, allowed[i:])
		checkName(t, "EST\x00"+allowed+"\x00EDT\x00", 4+i, allowed[i:])
		checkName(t, "E"+one(allowed[i])+"T\x00", 1, one(allowed[i])+"T")
	}
	long := strings.Repeat(allowed, 2000)
	for _, i := range []int{0, 1, 255, 256, 65535, len(long) / 2, len(long) - 1} {
		checkName(t, long+"\x00EST\x00", i, long[i:])
	}
	checkName(t, long+"\x00EST\x00", len(long), "")
	checkName(t, long+"\x00EST\x00", len(long)+1, "EST")
}

// P12.2: what is not an index of the table has no name.
func TestNoName(t *testing.T) {
	for _, table := range []string{"\x00", "\x00\x00", "EST\x00", "EST\x00EDT\x00", strings.Repeat("EST\x00", 100)} {
		n := len(table)
		for _, i := range []int{-1, -2, -n, -n - 1, -256, math.MinInt32, math.MinInt + 1, math.MinInt, n, n + 1, n + 2, 2 * n, n + 256, n + 1<<16, n + 1<<32, math.MaxInt32, math.MaxInt - 1, math.MaxInt} {
			checkNoName(t, table, i)
		}
		checkName(t, table, n-1, "")
	}
	whole := []byte("EST\x00EDT\x00")
	for i := 4; i < 9; i++ {
		if name, ok := desigs.Name(whole[:4], i); name != "" || ok {
			t.Errorf("Name(%q, %d) = %q, %v, want \"\", false", whole[:4], i, name, ok)
		}
	}
}

// P12.3: the chapter's example.
func TestExample(t *testing.T) {
	checkBuild(t, []string{"EST", "EDT", "EST"}, "EST\x00EDT\x00", []int{0, 4, 0})
}

// P12.3: without names the table has one NUL.
func TestBuildOfNothing(t *testing.T) {
	checkBuild(t, nil, "\x00", nil)
	checkBuild(t, []string{}, "\x00", nil)
	checkBuild(t, []string{"EST", "EDT"}[:0], "\x00", nil)
}

// P12.3: one name, of every byte that is allowed among others.
func TestBuildOfOne(t *testing.T) {
	checkBuild(t, []string{""}, "\x00", []int{0})
	checkBuild(t, []string{"EST"}, "EST\x00", []int{0})
	checkBuild(t, []string{allowed}, allowed+"\x00", []int{0})
	for i := range len(allowed) {
		for _, size := range []int{1, 2, 3, 255, 256, 1000} {
			name := strings.Repeat(one(allowed[i]), size)
			checkBuild(t, []string{name}, name+"\x00", []int{0})
		}
	}
}

// P12.3: names that occur once, twice and more often, next to each other and
// apart; the first occurrence gives the place.
func TestBuild(t *testing.T) {
	for _, x := range []struct {
		names []string
		table string
		at    []int
	}{
		{[]string{"EST", "EDT"}, "EST\x00EDT\x00", []int{0, 4}},
		{[]string{"EDT", "EST"}, "EDT\x00EST\x00", []int{0, 4}},
		{[]string{"EST", "EST"}, "EST\x00", []int{0, 0}},
		{[]string{"EST", "EST", "EST", "EST"}, "EST\x00", []int{0, 0, 0, 0}},
		{[]string{"EST", "EST", "EDT"}, "EST\x00EDT\x00", []int{0, 0, 4}},
		{[]string{"EST", "EDT", "EDT"}, "EST\x00EDT\x00", []int{0, 4, 4}},
		{[]string{"LMT", "EST", "EDT", "EWT", "EPT", "EST", "LMT"}, "LMT\x00EST\x00EDT\x00EWT\x00EPT\x00", []int{0, 4, 8, 12, 16, 4, 0}},
		{[]string{"B", "A", "C", "A", "B", "C", "D"}, "B\x00A\x00C\x00D\x00", []int{0, 2, 4, 2, 0, 4, 6}},
		{[]string{"+0330", "-03", "+0330", "UTC", "-03", "UTC"}, "+0330\x00-03\x00UTC\x00", []int{0, 6, 0, 10, 6, 10}},
		{[]string{"est", "EST", "Est"}, "est\x00EST\x00Est\x00", []int{0, 4, 8}},
	} {
		checkBuild(t, x.names, x.table, x.at)
	}
}

// P12.3: the empty name is one string like the others.
func TestBuildWithEmptyNames(t *testing.T) {
	checkBuild(t, []string{"", ""}, "\x00", []int{0, 0})
	checkBuild(t, []string{"", "", "", ""}, "\x00", []int{0, 0, 0, 0})
	checkBuild(t, []string{"", "EST"}, "\x00EST\x00", []int{0, 1})
	checkBuild(t, []string{"EST", ""}, "EST\x00\x00", []int{0, 4})
	checkBuild(t, []string{"EST", "", "EDT"}, "EST\x00\x00EDT\x00", []int{0, 4, 5})
	checkBuild(t, []string{"", "EST", "", "EDT", "EST", ""}, "\x00EST\x00EDT\x00", []int{0, 1, 0, 5, 1, 0})
}

// P12.3: a name that begins, ends or stands in another one has a string of its
// own.
func TestBuildSharesNothing(t *testing.T) {
	checkBuild(t, []string{"EST", "ST"}, "EST\x00ST\x00", []int{0, 4})
	checkBuild(t, []string{"ST", "EST"}, "ST\x00EST\x00", []int{0, 3})
	checkBuild(t, []string{"EST", "ES"}, "EST\x00ES\x00", []int{0, 4})
	checkBuild(t, []string{"ES", "EST"}, "ES\x00EST\x00", []int{0, 3})
	checkBuild(t, []string{"CEST", "ES"}, "CEST\x00ES\x00", []int{0, 5})
	checkBuild(t, []string{"ES", "CEST"}, "ES\x00CEST\x00", []int{0, 3})
	checkBuild(t, []string{"CEST", "EST", "ST", "T", ""}, "CEST\x00EST\x00ST\x00T\x00\x00", []int{0, 5, 9, 12, 14})
	checkBuild(t, []string{"", "T", "ST", "EST", "CEST"}, "\x00T\x00ST\x00EST\x00CEST\x00", []int{0, 1, 3, 6, 10})
	checkBuild(t, []string{"A", "AA", "AAA", "AA", "A"}, "A\x00AA\x00AAA\x00", []int{0, 2, 5, 2, 0})
	checkBuild(t, []string{"+03", "03", "+0", "3", "03"}, "+03\x0003\x00+0\x003\x00", []int{0, 4, 7, 10, 4})
}

// expectedBuild searches the names one by one.
func expectedBuild(names []string) (string, []int) {
	var strs []string
	var at []int
	for _, name := range names {
		k := slices.Index(strs, name)
		if k < 0 {
			k = len(strs)
			strs = append(strs, name)
		}
		at = append(at, len(strings.Join(strs[:k], "\x00")))
		if k > 0 {
			at[len(at)-1]++
		}
	}
	return strings.Join(strs, "\x00") + "\x00", at
}

// P12.3, P12.4: all lists of up to six of five names, of which some are empty
// or parts of others.
func TestBuildOfAllShortLists(t *testing.T) {
	kinds := []string{"", "A", "AB", "B", "+0A"}
	lists := [][]string{nil}
	for first, size := 0, 1; size <= 6; size++ {
		last := len(lists)
		for ; first < last; first++ {
			for _, name := range kinds {
				lists = append(lists, append(slices.Clone(lists[first]), name))
			}
		}
	}
	for _, names := range lists {
		want, at := expectedBuild(names)
		checkBuild(t, names, want, at)
	}
}

// P12.3, P12.4: long lists, with each name once, with names that come back
// after a while, and with one name only.
func TestBuildOfLongLists(t *testing.T) {
	const size = 20000
	for _, period := range []int{1, 2, 255, 256, 257, size - 1, size} {
		var names []string
		var want strings.Builder
		var at []int
		for i := range size {
			name := strconv.Itoa(i % period)
			if i < period {
				at = append(at, want.Len())
				want.WriteString(name + "\x00")
			} else {
				at = append(at, at[i-period])
			}
			names = append(names, name)
		}
		checkBuild(t, names, want.String(), at)
	}
}

// P12.3: names of many lengths; indices are not limited to those of a byte.
func TestBuildOfLongNames(t *testing.T) {
	var names []string
	var want string
	var at []int
	for size := range 300 {
		name := strings.Repeat(allowed, 5)[size%len(allowed):][:size%256]
		if k := slices.Index(names, name); k >= 0 {
			at = append(at, at[k])
		} else {
			at = append(at, len(want))
			want += name + "\x00"
		}
		names = append(names, name)
	}
	if last := at[255]; last < 256 {
		t.Errorf("the last name begins at %d", last)
	}
	checkBuild(t, names, want, at)
}

// P12.5: no call writes to its arguments or to the unused capacity behind them.
func TestArgumentsStay(t *testing.T) {
	whole := []byte("EST\x00EDT\x00!\xff+03\x00")
	before := bytes.Clone(whole)
	for n := range len(whole) + 1 {
		table := whole[:n]
		desigs.Valid(table)
		desigs.Bad(table)
		for i := -1; i <= len(whole)+1; i++ {
			desigs.Name(table, i)
		}
	}
	if !bytes.Equal(whole, before) {
		t.Errorf("the table became %q", whole)
	}
	names := []string{"EST", "EDT", "EST", "", "EST", "", "CEST", "EDT"}
	namesBefore := slices.Clone(names)
	for n := range len(names) + 1 {
		desigs.Build(names[:n])
	}
	if !slices.Equal(names, namesBefore) {
		t.Errorf("the names became %q", names)
	}
}

// P12.5: a name is memory of its own.
func TestNameIsNew(t *testing.T) {
	table := []byte("EST\x00EDT\x00")
	name, _ := desigs.Name(table, 4)
	part, _ := desigs.Name(table, 1)
	for i := range table {
		table[i] = 'x'
	}
	if name != "EDT" || part != "ST" {
		t.Errorf("the names became %q and %q with the table", name, part)
	}
}

// shares reports whether a table and a string lie in the same memory.
func shares(table []byte, s string) bool {
	first, other := uintptr(unsafe.Pointer(unsafe.SliceData(table))), uintptr(unsafe.Pointer(unsafe.StringData(s)))
	return first < other+uintptr(len(s)) && other < first+uintptr(cap(table))
}

// P12.5: what Build returns is memory of its own in each call.
func TestBuiltTablesAreNew(t *testing.T) {
	for _, names := range [][]string{{"EST"}, {""}, {"EST", "EST"}, {"EST", "EDT", "EST"}, nil, {}} {
		want, wantAt := expectedBuild(names)
		table, at := desigs.Build(names)
		other, otherAt := desigs.Build(names)
		for _, name := range names {
			if shares(table, name) {
				t.Errorf("Build(%q) shares memory with %q", names, name)
			}
		}
		_ = append(table, 'x')
		_ = append(at, -1)
		for i := range table {
			table[i] ^= 0x5a
		}
		for i := range at {
			at[i] = -1
		}
		if string(other) != want || !slices.Equal(otherAt, wantAt) {
			t.Errorf("the results of Build(%q) changed others to %q, %v", names, other, otherAt)
		}
		checkBuild(t, names, want, wantAt)
	}
}

// What the chapter leaves open does not panic: LANGUAGE.md, rule 4.
func TestUnspecified(t *testing.T) {
	for _, table := range append(allTables(), "EST", "EST\x00EDT", "é", "\xff\xff") {
		for _, i := range []int{math.MinInt, -1, 0, 1, 2, 3, len(table) - 1, len(table), len(table) + 1, math.MaxInt} {
			if name, ok := desigs.Name([]byte(table), i); !ok && name != "" {
				t.Errorf("Name(%q, %d) = %q, false", table, i, name)
			}
		}
		if _, at := desigs.Build([]string{table, "EST", table}); len(at) != 3 {
			t.Errorf("Build of %q has the indices %v", table, at)
		}
	}
	checkNoName(t, "", 0)
	checkNoName(t, "", -1)
	checkNoName(t, "", 1)
}
