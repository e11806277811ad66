package tzfile_test

import (
	"bytes"
	"encoding/binary"
	"encoding/hex"
	"fmt"
	"math"
	"math/rand"
	"runtime"
	"slices"
	"strings"
	"testing"

	"zoneinfo/api"
	"zoneinfo/posixtz"
	"zoneinfo/tzeval"
	"zoneinfo/tzfile"
	"zoneinfo/validate"
)

// headerSize is the number of bytes of a header.
const headerSize = 44

// newYork is the rule that continues the second block of full.
const newYork = "EST5EDT,M3.2.0,M11.1.0"

// least is the smallest valid block.
func least() api.Block {
	return api.Block{Types: []api.Type{{}}, Chars: []byte{0}}
}

// narrow has all seven lists, with 4-byte times.
func narrow() api.Block {
	return api.Block{
		Times: []int64{math.MinInt32, -2000, 0, 1000, math.MaxInt32},
		Index: []uint8{1, 0, 1, 2, 0},
		Types: []api.Type{{Offset: -18000, Desig: 0}, {Offset: -14400, Dst: true, Desig: 4}, {Desig: 8}},
		Chars: []byte("EST\x00EDT\x00-00\x00"),
		Leaps: []api.Leap{{At: 78796800, Corr: 1}, {At: 94694401, Corr: 2}, {At: 126230402, Corr: 1}},
		Std:   []bool{true, false, true},
		Ut:    []bool{true, false, false},
	}
}

// wide has all seven lists, none of the length of that of narrow, with 8-byte
// times. The last one is 2024-01-01, which newYork continues.
func wide() api.Block {
	return api.Block{
		Times: []int64{math.MinInt64, -1 << 40, -1, 1704067200},
		Index: []uint8{3, 2, 0, 1},
		Types: []api.Type{{Offset: -17762, Desig: 8}, {Offset: -18000, Desig: 0}, {Offset: -14400, Dst: true, Desig: 4}, {Offset: 7, Desig: 8}},
		Chars: []byte("EST\x00EDT\x00LMT\x00x\x00"),
		Leaps: []api.Leap{{At: 78796801, Corr: -1}, {At: 1 << 40, Corr: -2}},
		Std:   []bool{true, false, true, true},
		Ut:    []bool{true, false, false, true},
	}
}

// smallest is one of the smallest valid files of the version.
func smallest(version int) api.File {
	if version == 1 {
		return api.File{Version: 1, V1: least()}
	}
	return api.File{Version: version, V1: least(), V2: least()}
}

// full is a valid file of the version, with all lists.
func full(version int) api.File {
	if version == 1 {
		return api.File{Version: 1, V1: narrow()}
	}
	return api.File{Version: version, V1: narrow(), V2: wide(), Footer: newYork}
}

// files has valid files of the version, in which the parts are empty or not in
// all combinations.
func files(version int) []api.File {
	if version == 1 {
		return []api.File{smallest(1), full(1)}
	}
	var list []api.File
	for _, v1 := range []api.Block{least(), narrow()} {
		for _, v2 := range []api.Block{least(), wide()} {
			for _, footer := range []string{"", newYork} {
				list = append(list, api.File{Version: version, V1: v1, V2: v2, Footer: footer})
			}
		}
	}
	return list
}

// parts are the parts of an encoding, to be damaged one by one.
type parts struct {
	header1, block1, header2, block2, open, footer, end, behind []byte
}

func (p parts) bytes() []byte {
	return slices.Concat(p.header1, p.block1, p.header2, p.block2, p.open, p.footer, p.end, p.behind)
}

// second is the offset of the second header.
func (p parts) second() int { return len(p.header1) + len(p.block1) }

// opening is the offset of the newline behind the second block.
func (p parts) opening() int { return p.second() + len(p.header2) + len(p.block2) }

// text is the offset of the footer.
func (p parts) text() int { return p.opening() + len(p.open) }

// keepHeader1 and the others drop what comes behind.
func (p *parts) keepHeader1(n int) { *p = parts{header1: p.header1[:n]} }
func (p *parts) keepBlock1(n int)  { *p = parts{header1: p.header1, block1: p.block1[:n]} }
func (p *parts) keepHeader2(n int) {
	*p = parts{header1: p.header1, block1: p.block1, header2: p.header2[:n]}
}
func (p *parts) keepBlock2(n int) {
	*p = parts{header1: p.header1, block1: p.block1, header2: p.header2, block2: p.block2[:n]}
}

// encodedBlock encodes by encoding/binary.
func encodedBlock(b api.Block, size int) []byte {
	var out bytes.Buffer
	put := func(v any) { _ = binary.Write(&out, binary.BigEndian, v) }
	putTime := func(v int64) {
		if size == 4 {
			put(int32(v))
		} else {
			put(v)
		}
	}
	for _, v := range b.Times {
		putTime(v)
	}
	out.Write(b.Index)
	put(b.Types)
	out.Write(b.Chars)
	for _, v := range b.Leaps {
		putTime(v.At)
		put(v.Corr)
	}
	put(b.Std)
	put(b.Ut)
	return out.Bytes()
}

func encodedHeader(b api.Block, version int) []byte {
	out := make([]byte, 20)
	copy(out, "TZif")
	if version > 1 {
		out[4] = '0' + byte(version)
	}
	for _, n := range []int{len(b.Ut), len(b.Std), len(b.Leaps), len(b.Times), len(b.Types), len(b.Chars)} {
		out = binary.BigEndian.AppendUint32(out, uint32(n))
	}
	return out
}

// partsOf encodes f, valid or not, without the packages under test.
func partsOf(f api.File) parts {
	p := parts{header1: encodedHeader(f.V1, f.Version), block1: encodedBlock(f.V1, 4)}
	if f.Version > 1 {
		p.header2, p.block2 = encodedHeader(f.V2, f.Version), encodedBlock(f.V2, 8)
		p.open, p.footer, p.end = []byte("\n"), []byte(f.Footer), []byte("\n")
	}
	return p
}

func encoded(f api.File) []byte { return partsOf(f).bytes() }

// bytesOf reads digits of base 16, with blanks between them where they help.
func bytesOf(t *testing.T, digits string) []byte {
	t.Helper()
	b, err := hex.DecodeString(strings.ReplaceAll(digits, " ", ""))
	if err != nil {
		t.Fatal(err)
	}
	return b
}

// text tells all elements of a file, and of nil and empty lists the same.
func text(f api.File) string { return fmt.Sprintf("%d %v %v %q", f.Version, f.V1, f.V2, f.Footer) }

// checkRejected checks an error and its offset, which is one of b or its end.
func checkRejected(t *testing.T, b []byte, why api.Errno, at int) {
	t.Helper()
	got, gotWhy, gotAt := tzfile.Parse(b)
	if text(got) != text(api.File{}) || gotWhy != why || gotAt != at {
		t.Errorf("Parse(% .400x) = %.2000s, %d, %d, want no file, %d, %d", b, text(got), gotWhy, gotAt, why, at)
	}
	if gotWhy == api.OK || gotAt < 0 || gotAt > len(b) {
		t.Errorf("Parse(% .400x): error %d at %d of %d bytes", b, gotWhy, gotAt, len(b))
	}
}

// checkAccepted checks that b is the encoding of f, in both directions.
func checkAccepted(t *testing.T, b []byte, f api.File) {
	t.Helper()
	got, why, at := tzfile.Parse(b)
	if text(got) != text(f) || why != api.OK || at != 0 {
		t.Errorf("Parse(% .400x) = %.2000s, %d, %d, want %.2000s, 0, 0", b, text(got), why, at, text(f))
	}
	if why := validate.File(got); why != api.OK {
		t.Errorf("Parse(% .400x) = %.2000s, which has error %d", b, text(got), why)
	}
	code, why := tzfile.Serialize(f)
	if !bytes.Equal(code, b) || why != api.OK {
		t.Errorf("Serialize(%.2000s) = % .400x, %d, want % .400x, 0", text(f), code, why, b)
	}
}

func checkInvalid(t *testing.T, f api.File, want api.Errno) {
	t.Helper()
	if got, why := tzfile.Serialize(f); len(got) != 0 || why != want {
		t.Errorf("Serialize(%.2000s) = % .400x, %d, want nothing, %d", text(f), got, why, want)
	}
}

// The smallest headers and blocks: a type, a NUL, and no other records.
const (
	leastCounts = "00000000 00000000 00000000 00000000 00000001 00000001"
	leastBlock  = "00000000 00 00 00"
	reserved    = "000000000000000000000000000000"
)

// P21.1, P21.2: the chapter's example.
func TestExample(t *testing.T) {
	b := bytesOf(t, "545a6966 00"+reserved+leastCounts+leastBlock)
	if len(b) != 44+7 {
		t.Fatalf("the example has %d bytes", len(b))
	}
	checkAccepted(t, b, api.File{Version: 1, V1: api.Block{Types: []api.Type{{}}, Chars: []byte{0}}})
}

// P21.1, P21.2: the smallest files of the other versions, with an empty footer.
func TestSmallestFiles(t *testing.T) {
	for version := 2; version <= 4; version++ {
		part := fmt.Sprintf("545a6966 3%d", version) + reserved + leastCounts + leastBlock
		b := bytesOf(t, part+part+"0a 0a")
		if len(b) != 104 {
			t.Fatalf("the smallest file has %d bytes", len(b))
		}
		checkAccepted(t, b, api.File{Version: version, V1: least(), V2: least()})
	}
}

// P21.1, P21.2: files with records of all kinds, byte by byte.
func TestAllRecords(t *testing.T) {
	v1 := api.Block{
		Times: []int64{0x01020304}, Index: []uint8{1}, Types: []api.Type{{}, {Offset: 7200, Dst: true, Desig: 4}}, Chars: []byte("-00\x00CEST\x00"),
		Leaps: []api.Leap{{At: 78796800, Corr: 1}}, Std: []bool{true, false}, Ut: []bool{true, false},
	}
	v2 := api.Block{
		Times: []int64{-0x0102030405, 0x0102030405}, Index: []uint8{1, 0}, Types: []api.Type{{Offset: 3600, Desig: 1}, {Offset: -1}}, Chars: []byte("XCET\x00"),
		Leaps: []api.Leap{{At: 94694401, Corr: -1}}, Std: []bool{false, true},
	}
	first := reserved + "00000002 00000002 00000001 00000001 00000002 00000009" +
		"01020304 01 00000000 00 00 00001c20 01 04 2d30300043455354 00 04b25800 00000001 01 00 01 00"
	second := reserved + "00000000 00000002 00000001 00000002 00000002 00000005" +
		"fffffffefdfcfbfb 0000000102030405 01 00 00000e10 00 01 ffffffff 00 00 5843455400 0000000005a4ec01 ffffffff 00 01"
	checkAccepted(t, bytesOf(t, "545a6966 00"+first), api.File{Version: 1, V1: v1})
	for version := 2; version <= 4; version++ {
		magic := fmt.Sprintf("545a6966 3%d", version)
		part := magic + first + magic + second + "0a"
		checkAccepted(t, bytesOf(t, part+"43 45 54 2d 31 0a"), api.File{Version: version, V1: v1, V2: v2, Footer: "CET-1"})
		checkAccepted(t, bytesOf(t, part+"0a"), api.File{Version: version, V1: v1, V2: v2})
	}
}

// P21.1, P21.2, P21.3: all versions, with parts that are empty or not, and the
// footers that each version has.
func TestAccepted(t *testing.T) {
	for version := 1; version <= 4; version++ {
		for _, f := range files(version) {
			checkAccepted(t, encoded(f), f)
		}
	}
	for version := 2; version <= 4; version++ {
		for _, footer := range []string{"UTC0", "<-03>3<-02>,M3.5.0/-2,M10.5.0/-1", "EST5EDT,0/0,J365/25", strings.Repeat("y", 255) + "-24:59:59"} {
			f := smallest(version)
			f.Footer = footer
			if version == 2 && strings.ContainsAny(footer, "/") {
				checkInvalid(t, f, api.ErrHours)
				checkRejected(t, encoded(f), api.ErrHours, 44+7+44+7+1)
				continue
			}
			checkAccepted(t, encoded(f), f)
		}
	}
}

// P21.1, P21.2: leap second records that only version 4 allows, in either
// block.
func TestLeapsOfVersion4(t *testing.T) {
	for _, l := range [][]api.Leap{{{At: 0, Corr: 10}}, {{At: 78796800, Corr: 1}, {At: 94694401, Corr: 1}}} {
		for version := 1; version <= 4; version++ {
			f := full(version)
			f.V1.Leaps = l
			if version == 4 {
				checkAccepted(t, encoded(f), f)
			} else {
				checkInvalid(t, f, api.ErrLeap)
				checkRejected(t, encoded(f), api.ErrLeap, 0)
			}
			if version == 1 {
				continue
			}
			f = full(version)
			f.V2.Leaps = l
			if version == 4 {
				checkAccepted(t, encoded(f), f)
			} else {
				checkInvalid(t, f, api.ErrLeap)
				checkRejected(t, encoded(f), api.ErrLeap, partsOf(f).second())
			}
		}
	}
}

// damage makes one step fail.
type damage struct {
	step  int
	name  string
	apply func(p *parts)
	why   api.Errno
	at    func(p parts) int // of the damaged parts
}

// The offsets of errors.
func fixed(n int) func(p parts) int   { return func(parts) int { return n } }
func second(n int) func(p parts) int  { return func(p parts) int { return p.second() + n } }
func inText(n int) func(p parts) int  { return func(p parts) int { return p.text() + n } }
func opening(p parts) int             { return p.opening() }
func inputEnd(p parts) int            { return len(p.bytes()) }
func beforeBehind(p parts) int        { return len(p.bytes()) - len(p.behind) }
func setCount(h []byte, i int, n int) { binary.BigEndian.PutUint32(h[20+4*i:], uint32(n)) }
func count(h []byte, i int) int       { return int(binary.BigEndian.Uint32(h[20+4*i:])) }

// The counts of a header in their order.
const (
	isUt = iota
	isStd
	leap
	time
	typ
	char
)

// headerDamages are the steps 1 and 4. part is the header, keep drops all but
// the first bytes of it, and at is where an offset of it lies in the input.
func headerDamages(step int, part func(p *parts) []byte, keep func(p *parts, n int), at func(n int) func(p parts) int) []damage {
	var list []damage
	add := func(name string, why api.Errno, at func(p parts) int, apply func(h []byte)) {
		list = append(list, damage{step, name, func(p *parts) { apply(part(p)) }, why, at})
	}
	for i := range 4 {
		add(fmt.Sprint("magic byte ", i), api.ErrMagic, at(i), func(h []byte) { h[i] ^= 0x20 })
	}
	for _, v := range []byte{1, 2, '0', '1', '5', 'T', 255} {
		add(fmt.Sprint("version byte ", v), api.ErrVersion, at(4), func(h []byte) { h[4] = v })
	}
	for i := 5; i < 20; i++ {
		add(fmt.Sprint("reserved byte ", i), api.ErrReserved, at(i), func(h []byte) { h[i] = 1 })
	}
	add("no type", api.ErrCount, at(0), func(h []byte) { setCount(h, typ, 0) })
	add("no designation byte", api.ErrCount, at(0), func(h []byte) { setCount(h, char, 0) })
	add("more standard indicators", api.ErrCount, at(0), func(h []byte) { setCount(h, isStd, count(h, typ)+1) })
	add("more UT indicators", api.ErrCount, at(0), func(h []byte) { setCount(h, isUt, count(h, typ)+1) })
	for _, n := range []int{0, 1, 3, 4, 5, 12, 19, 20, 23, 24, 40, 43} {
		list = append(list, damage{step, fmt.Sprint("header of ", n), func(p *parts) { keep(p, n) }, api.ErrTruncated, inputEnd})
	}
	return list
}

// blockDamages are the steps 2 and 5 in blocks with all lists. part is the
// header with the block, and size that of its times.
func blockDamages(step, size int, part func(p *parts) (h, b []byte), keep func(p *parts, n int), at func(p parts) int) []damage {
	var list []damage
	add := func(name string, why api.Errno, at func(p parts) int, apply func(h, b []byte)) {
		list = append(list, damage{step, name, func(p *parts) { apply(part(p)) }, why, at})
	}
	types := func(h []byte) int { return count(h, time) * (size + 1) }
	chars := func(h []byte) int { return types(h) + 6*count(h, typ) }
	leaps := func(h []byte) int { return chars(h) + count(h, char) }
	add("too many times", api.ErrTruncated, inputEnd, func(h, b []byte) { setCount(h, time, 1<<20) })
	add("too many leap seconds", api.ErrTruncated, inputEnd, func(h, b []byte) { setCount(h, leap, math.MaxUint32) })
	add("too many designation bytes", api.ErrTruncated, inputEnd, func(h, b []byte) { setCount(h, char, math.MaxUint32) })
	add("daylight flag of the first type", api.ErrBool, at, func(h, b []byte) { b[types(h)+4] = 2 })
	add("that of the last type", api.ErrBool, at, func(h, b []byte) { b[chars(h)-2] = 255 })
	add("standard indicator", api.ErrBool, at, func(h, b []byte) { b[len(b)-2*count(h, typ)] = 2 })
	add("UT indicator", api.ErrBool, at, func(h, b []byte) { b[len(b)-1] = 0x80 })
	add("times that are equal", api.ErrOrder, at, func(h, b []byte) { copy(b[size:2*size], b[:size]) })
	add("type index", api.ErrIndex, at, func(h, b []byte) { b[types(h)-1] = byte(count(h, typ)) })
	add("designation index", api.ErrIndex, at, func(h, b []byte) { b[types(h)+5] = byte(count(h, char)) })
	add("the smallest offset", api.ErrOffset, at, func(h, b []byte) { copy(b[types(h):], "\x80\x00\x00\x00") })
	add("no final NUL", api.ErrDesignation, at, func(h, b []byte) { b[leaps(h)-1] = 'x' })
	add("designation byte", api.ErrDesignation, at, func(h, b []byte) { b[chars(h)] = '_' })
	add("correction", api.ErrLeap, at, func(h, b []byte) { b[leaps(h)+size+2] = 1 })
	add("leap second before 0", api.ErrLeap, at, func(h, b []byte) { b[leaps(h)] |= 0x80 })
	add("UT indicator alone", api.ErrIndicator, at, func(h, b []byte) { b[len(b)-2*count(h, typ)] = 0 })
	for _, n := range []int{0, 1, 4, 20, 40, 60} {
		list = append(list, damage{step, fmt.Sprint("block of ", n), func(p *parts) { keep(p, n) }, api.ErrTruncated, inputEnd})
	}
	return append(list, damage{step, "block without its last byte", func(p *parts) {
		_, b := part(p)
		keep(p, len(b)-1)
	}, api.ErrTruncated, inputEnd})
}

func firstDamages() []damage {
	return slices.Concat(
		headerDamages(1, func(p *parts) []byte { return p.header1 }, (*parts).keepHeader1, fixed),
		blockDamages(2, 4, func(p *parts) (h, b []byte) { return p.header1, p.block1 }, (*parts).keepBlock1, fixed(0)),
	)
}

// versionDamages are those of step 4 in which the second header has another
// version than the first one, alone and with further damage to the header.
func versionDamages() []damage {
	other := func(p *parts) { p.header2[4] = '2' + (p.header2[4]-'2'+1)%3 }
	another := func(p *parts) { p.header2[4] = '2' + (p.header2[4]-'2'+2)%3 }
	return []damage{
		{4, "the next version", other, api.ErrVersion, second(4)},
		{4, "the one after that", another, api.ErrVersion, second(4)},
		{4, "version 1", func(p *parts) { p.header2[4] = 0 }, api.ErrVersion, second(4)},
		{4, "version and reserved byte", func(p *parts) { other(p); p.header2[19] = 1 }, api.ErrReserved, second(19)},
		{4, "version and magic byte", func(p *parts) { other(p); p.header2[3] = 'F' }, api.ErrMagic, second(3)},
		{4, "version and counts", func(p *parts) { another(p); setCount(p.header2, typ, 0) }, api.ErrCount, second(0)},
		{4, "version 1 and counts", func(p *parts) { p.header2[4] = 0; setCount(p.header2, char, 0) }, api.ErrCount, second(0)},
		{4, "version and end", func(p *parts) { other(p); p.keepHeader2(43) }, api.ErrTruncated, inputEnd},
		{4, "version and end behind it", func(p *parts) { another(p); p.keepHeader2(5) }, api.ErrTruncated, inputEnd},
		{4, "version and end behind the header", func(p *parts) { another(p); p.keepHeader2(44) }, api.ErrVersion, second(4)},
	}
}

// footerDamages are the steps 6 to 9.
func footerDamages() []damage {
	list := []damage{
		{6, "end", func(p *parts) { p.open, p.footer, p.end, p.behind = nil, nil, nil, nil }, api.ErrTruncated, inputEnd},
		{6, "a letter", func(p *parts) { p.open = []byte("x") }, api.ErrFooter, opening},
		{6, "a carriage return", func(p *parts) { p.open = []byte("\r\n") }, api.ErrFooter, opening},
		{6, "a NUL", func(p *parts) { p.open = []byte{0} }, api.ErrFooter, opening},
		{6, "the footer", func(p *parts) { p.open, p.footer = nil, []byte(newYork) }, api.ErrFooter, opening},
		{6, "one letter and the end", func(p *parts) { p.open, p.footer, p.end, p.behind = []byte("x"), nil, nil, nil }, api.ErrFooter, opening},
		{7, "no second newline", func(p *parts) { p.end, p.behind = nil, nil }, api.ErrTruncated, inputEnd},
		{7, "nor a footer", func(p *parts) { p.footer, p.end, p.behind = nil, nil, nil }, api.ErrTruncated, inputEnd},
		{7, "other bytes", func(p *parts) { p.end, p.behind = []byte("\x00"), []byte("EST5") }, api.ErrTruncated, inputEnd},
		{7, "a carriage return", func(p *parts) { p.end, p.behind = []byte("\r"), nil }, api.ErrTruncated, inputEnd},
	}
	for footer, at := range map[string]int{
		"?": 0, " ": 0, "\x00": 0, "EST": 3, "EST5 ": 4, "EST5EDT": 7, "EST5EDT,M3.2.0": 14, "EST5EDT,M13.2.0,M11.1.0": 8, newYork + "\r": 22, newYork + "\xff": 22,
	} {
		list = append(list, damage{8, fmt.Sprintf("footer %q", footer), func(p *parts) { p.footer = []byte(footer) }, api.ErrFooter, inText(at)})
	}
	for _, footer := range []string{"CST6CDT,M3.2.0,M11.1.0", "EST4", "EDT5", "EDT4", "<EST>5:00:01"} {
		list = append(list, damage{8, "footer " + footer, func(p *parts) { p.footer = []byte(footer) }, api.ErrMismatch, inText(0)})
	}
	for _, behind := range []string{"x", "\n", "\x00", "TZif", newYork + "\n", "\n\n\n"} {
		list = append(list, damage{9, fmt.Sprintf("%q behind", behind), func(p *parts) { p.behind = []byte(behind) }, api.ErrTrailing, beforeBehind})
	}
	return list
}

// hoursDamages are those of step 8 in version 2 only.
func hoursDamages() []damage {
	var list []damage
	for _, footer := range []string{"EST5EDT,M3.2.0/-1,M11.1.0", "EST5EDT,M3.2.0,M11.1.0/25", "CST6CDT,M3.2.0/-1,M11.1.0"} {
		list = append(list, damage{8, "footer " + footer, func(p *parts) { p.footer = []byte(footer) }, api.ErrHours, inText(0)})
	}
	return list
}

// oldDamages are those of step 3.
func oldDamages() []damage {
	var list []damage
	for _, behind := range []string{"x", "\n", "\x00", "\n\n", "\n" + newYork + "\n", string(encoded(smallest(1))), string(encoded(full(2)))} {
		list = append(list, damage{3, fmt.Sprintf("%q behind", behind), func(p *parts) { p.behind = []byte(behind) }, api.ErrTrailing, beforeBehind})
	}
	return list
}

// damages are all those of full files of the version.
func damages(version int) []damage {
	if version == 1 {
		return append(firstDamages(), oldDamages()...)
	}
	list := slices.Concat(
		firstDamages(),
		headerDamages(4, func(p *parts) []byte { return p.header2 }, (*parts).keepHeader2, second),
		versionDamages(),
		blockDamages(5, 8, func(p *parts) (h, b []byte) { return p.header2, p.block2 }, (*parts).keepBlock2, second(0)),
		footerDamages(),
	)
	if version == 2 {
		list = append(list, hoursDamages()...)
	}
	return list
}

// P21.1: each step fails alone, in each of its ways, in files of all versions.
func TestOneDamage(t *testing.T) {
	for version := 1; version <= 4; version++ {
		steps := map[int]bool{}
		for _, x := range damages(version) {
			t.Run(fmt.Sprintf("version %d step %d %s", version, x.step, x.name), func(t *testing.T) {
				p := partsOf(full(version))
				x.apply(&p)
				checkRejected(t, p.bytes(), x.why, x.at(p))
			})
			steps[x.step] = true
		}
		if want := map[bool]int{true: 3, false: 8}[version == 1]; len(steps) != want {
			t.Errorf("version %d: %d steps fail", version, len(steps))
		}
	}
}

// P21.1: pairs of steps fail together, where the earlier one is reported. The
// damage of the earlier one is done last, because it may take away what the
// later one damages.
func TestTwoDamages(t *testing.T) {
	for version := 1; version <= 4; version++ {
		for _, x := range damages(version) {
			for _, y := range damages(version) {
				if x.step >= y.step {
					continue
				}
				p := partsOf(full(version))
				y.apply(&p)
				x.apply(&p)
				checkRejected(t, p.bytes(), x.why, x.at(p))
			}
		}
	}
}

// P21.1: an error in the second block is reported at the second header, and one
// in the footer behind it, whether the first block is long or not.
func TestPlacesBehindTheFirstBlock(t *testing.T) {
	for version := 2; version <= 4; version++ {
		for v1, place := range map[*api.Block]int{{Types: make([]api.Type, 1), Chars: make([]byte, 1)}: 51, {Types: make([]api.Type, 50), Chars: make([]byte, 500)}: 844} {
			for _, x := range damages(version) {
				if x.step < 4 {
					continue
				}
				f := full(version)
				f.V1 = *v1
				p := partsOf(f)
				x.apply(&p)
				checkRejected(t, p.bytes(), x.why, x.at(p))
				if x.step == 5 && x.why != api.ErrTruncated {
					checkRejected(t, p.bytes(), x.why, place)
				}
			}
		}
	}
}

// P21.1: the smallest files of the versions 2 to 4, damaged at literal offsets.
func TestLiteralOffsets(t *testing.T) {
	for version := 2; version <= 4; version++ {
		good := encoded(smallest(version))
		for _, x := range []struct {
			place int
			value byte
			why   api.Errno
			at    int
		}{
			{0, 't', api.ErrMagic, 0}, {3, 'F', api.ErrMagic, 3}, {4, '1', api.ErrVersion, 4}, {5, 1, api.ErrReserved, 5}, {19, 1, api.ErrReserved, 19},
			{23, 2, api.ErrCount, 0}, {27, 2, api.ErrCount, 0}, {39, 0, api.ErrCount, 0}, {43, 0, api.ErrCount, 0}, {31, 99, api.ErrTruncated, 104},
			{48, 2, api.ErrBool, 0}, {44, 0x80, api.ErrOffset, 0}, {49, 1, api.ErrIndex, 0}, {50, 'A', api.ErrDesignation, 0},
			{51, 't', api.ErrMagic, 51}, {54, 'F', api.ErrMagic, 54}, {55, '1', api.ErrVersion, 55}, {55, 0, api.ErrVersion, 55}, {56, 1, api.ErrReserved, 56}, {70, 1, api.ErrReserved, 70},
			{74, 2, api.ErrCount, 51}, {78, 2, api.ErrCount, 51}, {90, 0, api.ErrCount, 51}, {94, 0, api.ErrCount, 51}, {86, 1, api.ErrTruncated, 104},
			{99, 2, api.ErrBool, 51}, {95, 0x80, api.ErrOffset, 51}, {100, 1, api.ErrIndex, 51}, {101, 'A', api.ErrDesignation, 51},
			{102, 0, api.ErrFooter, 102}, {103, 'U', api.ErrTruncated, 104},
		} {
			b := bytes.Clone(good)
			b[x.place] = x.value
			checkRejected(t, b, x.why, x.at)
		}
		checkRejected(t, append(good, 'x'), api.ErrTrailing, 104)
		checkRejected(t, append(good, "\nUTC0\n"...), api.ErrTrailing, 104)
		f := smallest(version)
		f.Footer = "UTC0x"
		checkRejected(t, encoded(f), api.ErrFooter, 103+4)
		f.Footer = "UTC"
		checkRejected(t, append(encoded(f), "more"...), api.ErrFooter, 103+3)
		f.Footer = "\nUTC0"
		checkRejected(t, encoded(f), api.ErrTrailing, 104)
	}
}

// P21.1: every proper prefix of an encoding ends too early.
func TestPrefixes(t *testing.T) {
	for version := 1; version <= 4; version++ {
		for _, f := range files(version) {
			b := encoded(f)
			for n := range b {
				checkRejected(t, b[:n], api.ErrTruncated, n)
				checkRejected(t, bytes.Clone(b[:n]), api.ErrTruncated, n)
			}
		}
	}
}

// P21.1: every byte behind an encoding is one too much, and so are several.
func TestExtensions(t *testing.T) {
	for version := 1; version <= 4; version++ {
		for _, f := range files(version) {
			b := encoded(f)
			for c := range 256 {
				checkRejected(t, append(bytes.Clone(b), byte(c)), api.ErrTrailing, len(b))
				checkRejected(t, append(bytes.Clone(b), byte(c), '\n', byte(c)), api.ErrTrailing, len(b))
			}
			checkRejected(t, append(bytes.Clone(b), b...), api.ErrTrailing, len(b))
		}
	}
}

// P21.1: inputs that are no encodings at all.
func TestNoEncodings(t *testing.T) {
	checkRejected(t, nil, api.ErrTruncated, 0)
	checkRejected(t, []byte{}, api.ErrTruncated, 0)
	checkRejected(t, []byte("\n"), api.ErrTruncated, 1)
	checkRejected(t, []byte("EST5"), api.ErrMagic, 0)
	checkRejected(t, make([]byte, 1000), api.ErrMagic, 0)
	checkRejected(t, append([]byte{0}, encoded(full(2))...), api.ErrMagic, 0)
	checkRejected(t, encoded(full(2))[1:], api.ErrMagic, 0)
}

// P21.1: a file whose headers have different versions, of each two versions.
func TestTwoVersions(t *testing.T) {
	for first := 2; first <= 4; first++ {
		for other := 1; other <= 4; other++ {
			p, q := partsOf(full(first)), partsOf(full(max(other, 2)))
			p.header2 = q.header2
			if other == 1 {
				p.header2[4] = 0
			}
			if first == other {
				checkAccepted(t, p.bytes(), full(first))
			} else {
				checkRejected(t, p.bytes(), api.ErrVersion, p.second()+4)
			}
		}
	}
	for later := 2; later <= 4; later++ {
		p := partsOf(full(later))
		p.header1[4] = 0
		checkRejected(t, p.bytes(), api.ErrTrailing, p.second())
		p = parts{header1: p.header1, block1: p.block1}
		p.header1[4] = '0' + byte(later)
		checkRejected(t, p.bytes(), api.ErrTruncated, p.second())
	}
}

// modelHeader reads a header at pos as the chapters 13 and 2 put it. The counts
// are those of IsUt, IsStd, Leap, Time, Type and Char.
func modelHeader(b []byte, pos int) (version int, counts [6]int, why api.Errno, at int) {
	rest := b[pos:]
	if len(rest) < 4 {
		return 0, counts, api.ErrTruncated, len(b)
	}
	for i, c := range []byte("TZif") {
		if rest[i] != c {
			return 0, counts, api.ErrMagic, pos + i
		}
	}
	if len(rest) < 5 {
		return 0, counts, api.ErrTruncated, len(b)
	}
	version = strings.IndexByte("?\x00234", rest[4])
	if version < 1 {
		return 0, counts, api.ErrVersion, pos + 4
	}
	if len(rest) < 20 {
		return 0, counts, api.ErrTruncated, len(b)
	}
	for i := 5; i < 20; i++ {
		if rest[i] != 0 {
			return 0, counts, api.ErrReserved, pos + i
		}
	}
	if len(rest) < headerSize {
		return 0, counts, api.ErrTruncated, len(b)
	}
	for i := range counts {
		counts[i] = count(rest, i)
	}
	isOther := func(n int) bool { return n != 0 && n != counts[typ] }
	if counts[typ] == 0 || counts[char] == 0 || isOther(counts[isUt]) || isOther(counts[isStd]) {
		return 0, counts, api.ErrCount, pos
	}
	return version, counts, api.OK, 0
}

// modelBlock reads a block by encoding/binary. Counts that do not fit are found
// by adding up what they need, which is far from the limits of an int.
func modelBlock(b []byte, pos int, counts [6]int, size int) (out api.Block, end int, why api.Errno) {
	end = pos + counts[time]*(size+1) + counts[typ]*6 + counts[char] + counts[leap]*(size+4) + counts[isStd] + counts[isUt]
	if end > len(b) {
		return api.Block{}, 0, api.ErrTruncated
	}
	next := func(n int) []byte {
		pos += n
		return b[pos-n : pos]
	}
	nextTime := func() int64 {
		if size == 4 {
			return int64(int32(binary.BigEndian.Uint32(next(4))))
		}
		return int64(binary.BigEndian.Uint64(next(8)))
	}
	flag := func() bool {
		v := next(1)[0]
		if v > 1 {
			why = api.ErrBool
		}
		return v == 1
	}
	for range counts[time] {
		out.Times = append(out.Times, nextTime())
	}
	out.Index = bytes.Clone(next(counts[time]))
	for range counts[typ] {
		offset := int32(binary.BigEndian.Uint32(next(4)))
		dst := flag()
		out.Types = append(out.Types, api.Type{Offset: offset, Dst: dst, Desig: next(1)[0]})
	}
	out.Chars = bytes.Clone(next(counts[char]))
	for range counts[leap] {
		at := nextTime()
		out.Leaps = append(out.Leaps, api.Leap{At: at, Corr: int32(binary.BigEndian.Uint32(next(4)))})
	}
	for range counts[isStd] {
		out.Std = append(out.Std, flag())
	}
	for range counts[isUt] {
		out.Ut = append(out.Ut, flag())
	}
	return out, end, why
}

// modelPart reads a header with its block, which has to be valid.
func modelPart(b []byte, pos, size, version int) (out api.Block, got, end int, why api.Errno, at int) {
	got, counts, why, at := modelHeader(b, pos)
	if why != api.OK {
		return out, 0, 0, why, at
	}
	if version != 0 && got != version {
		return out, 0, 0, api.ErrVersion, pos + 4
	}
	out, end, why = modelBlock(b, pos+headerSize, counts, size)
	if why == api.ErrTruncated {
		return out, 0, 0, why, len(b)
	}
	if why == api.OK {
		why = validate.Block(out, got, size)
	}
	return out, got, end, why, pos
}

// model is Parse as the chapter puts it.
func model(b []byte) (api.File, api.Errno, int) {
	var f api.File
	var why api.Errno
	var pos, at int
	if f.V1, f.Version, pos, why, at = modelPart(b, 0, 4, 0); why != api.OK {
		return api.File{}, why, at
	}
	if f.Version == 1 && pos < len(b) {
		return api.File{}, api.ErrTrailing, pos
	}
	if f.Version == 1 {
		return f, api.OK, 0
	}
	if f.V2, _, pos, why, at = modelPart(b, pos, 8, f.Version); why != api.OK {
		return api.File{}, why, at
	}
	if pos == len(b) {
		return api.File{}, api.ErrTruncated, pos
	}
	if b[pos] != '\n' {
		return api.File{}, api.ErrFooter, pos
	}
	footer, behind, ok := strings.Cut(string(b[pos+1:]), "\n")
	if !ok {
		return api.File{}, api.ErrTruncated, len(b)
	}
	f.Footer = footer
	if why, at := validate.Footer(f); why != api.OK {
		return api.File{}, why, pos + 1 + at
	}
	if behind != "" {
		return api.File{}, api.ErrTrailing, len(b) - len(behind)
	}
	return f, api.OK, 0
}

// checkModel checks Parse against the model and returns the error.
func checkModel(t *testing.T, b []byte) api.Errno {
	t.Helper()
	f, why, at := model(b)
	if why == api.OK {
		checkAccepted(t, b, f)
	} else {
		checkRejected(t, b, why, at)
	}
	return why
}

// P21.1, P21.2, P21.3: every change of one byte. What is accepted then is the
// encoding of another file.
func TestEveryByteChanged(t *testing.T) {
	for version := 1; version <= 4; version++ {
		for _, f := range []api.File{smallest(version), full(version)} {
			b := encoded(f)
			for i, before := range b {
				for c := range 256 {
					b[i] = byte(c)
					checkModel(t, b)
				}
				b[i] = before
			}
		}
	}
}

// P21.1: one byte is left out, or one is put in.
func TestEveryByteMoved(t *testing.T) {
	for version := 1; version <= 4; version++ {
		for _, f := range files(version) {
			b := encoded(f)
			for i := range b {
				checkModel(t, slices.Delete(bytes.Clone(b), i, i+1))
				for _, c := range []byte{0, 1, '\n', 'x', 255} {
					checkModel(t, slices.Insert(bytes.Clone(b), i, c))
				}
			}
		}
	}
}

// randomBlock makes a valid block for the time size.
func randomBlock(random *rand.Rand, size int) api.Block {
	b := api.Block{Types: make([]api.Type, 1+random.Intn(4))}
	for range random.Intn(4) {
		b.Chars = append(b.Chars, []string{"EST\x00", "EDT\x00", "-00\x00", "+0530\x00", "\x00", "X"}[random.Intn(6)]...)
	}
	b.Chars = append(b.Chars, 0)
	for i := range b.Types {
		b.Types[i] = api.Type{Offset: int32(random.Uint32()) | 1, Dst: random.Intn(2) == 1, Desig: uint8(random.Intn(len(b.Chars)))}
	}
	for range random.Intn(6) {
		b.Times = append(b.Times, int64(random.Uint64())>>(64-8*size))
	}
	slices.Sort(b.Times)
	b.Times = slices.Compact(b.Times)
	for range b.Times {
		b.Index = append(b.Index, uint8(random.Intn(len(b.Types))))
	}
	at, corr := int64(random.Intn(3)), int32(1-2*random.Intn(2))
	for range random.Intn(4) {
		b.Leaps = append(b.Leaps, api.Leap{At: at, Corr: corr})
		at += 2419199 + int64(random.Intn(3))
		corr += int32(1 - 2*random.Intn(2))
	}
	if random.Intn(2) == 0 {
		b.Std = make([]bool, len(b.Types))
		for i := range b.Std {
			b.Std[i] = random.Intn(2) == 0
		}
		if random.Intn(2) == 0 {
			b.Ut = slices.Clone(b.Std)
			b.Ut[0] = false
		}
	}
	return b
}

// continued lets the last transition of b lead to what the rule continues.
func continued(b *api.Block, footer string) {
	r, why, _ := posixtz.Parse(footer)
	if why != api.OK || len(b.Times) == 0 {
		return
	}
	b.Leaps = nil
	last := tzeval.At(r, b.Times[len(b.Times)-1])
	b.Chars = append([]byte(last.Name+"\x00"), b.Chars...)
	b.Types[0] = api.Type{Offset: int32(last.Offset), Dst: last.Dst}
	b.Index[len(b.Index)-1] = 0
}

// randomFile makes a valid file of the version.
func randomFile(random *rand.Rand, version int) api.File {
	f := api.File{Version: version, V1: randomBlock(random, 4)}
	if version > 1 {
		f.V2 = randomBlock(random, 8)
		f.Footer = []string{"", newYork, "UTC0", "<+0530>-5:30", "AEST-10AEDT,M10.1.0,M4.1.0/3", "ABC-1:02:03"}[random.Intn(6)]
		continued(&f.V2, f.Footer)
	}
	return f
}

// P21.2, P21.3: parsing the encoding of a random file returns it.
func TestRandomFiles(t *testing.T) {
	random := rand.New(rand.NewSource(211))
	for i := range 20000 {
		f := randomFile(random, 1+i%4)
		b, why := tzfile.Serialize(f)
		if why != api.OK {
			t.Fatalf("Serialize(%.2000s): error %d", text(f), why)
		}
		if !bytes.Equal(b, encoded(f)) {
			t.Fatalf("Serialize(%.2000s) = % .400x, want % .400x", text(f), b, encoded(f))
		}
		got, why, at := tzfile.Parse(b)
		if text(got) != text(f) || why != api.OK || at != 0 {
			t.Fatalf("Parse(Serialize(%.2000s)) = %.2000s, %d, %d", text(f), text(got), why, at)
		}
	}
}

// P21.1, P21.3: random files with a few bytes changed, left out or put in.
func TestRandomDamage(t *testing.T) {
	random := rand.New(rand.NewSource(212))
	seen := map[api.Errno]int{}
	for i := range 60000 {
		b := encoded(randomFile(random, 1+i%4))
		for range 1 + random.Intn(3) {
			place := random.Intn(len(b))
			if random.Intn(2) == 0 {
				place = len(b) - 1 - place/4
			}
			switch random.Intn(6) {
			case 0:
				b = slices.Delete(b, place, place+1)
			case 1:
				b = slices.Insert(b, place, byte(random.Uint32()))
			case 2:
				b[place] = byte(random.Uint32())
			case 3:
				b[place] ^= 1 << random.Intn(8)
			case 4:
				b[place] = byte(random.Intn(3))
			case 5:
				copy(b[place:], b[random.Intn(len(b)):])
			}
		}
		seen[checkModel(t, b)]++
	}
	for _, why := range []api.Errno{
		api.OK, api.ErrTruncated, api.ErrTrailing, api.ErrMagic, api.ErrVersion, api.ErrReserved, api.ErrCount, api.ErrOrder, api.ErrIndex, api.ErrOffset,
		api.ErrBool, api.ErrDesignation, api.ErrLeap, api.ErrIndicator, api.ErrFooter, api.ErrMismatch,
	} {
		if seen[why] < 10 && why != api.ErrOffset {
			t.Errorf("error %d is met %d times only", why, seen[why])
		}
	}
}

// P21.1: random inputs that go on from the beginning of an encoding.
func TestRandomTails(t *testing.T) {
	random := rand.New(rand.NewSource(213))
	for i := range 20000 {
		b := encoded(randomFile(random, 1+i%4))
		b = b[:random.Intn(len(b)+1)]
		for range random.Intn(60) {
			b = append(b, "TZif234\x00\x00\x00\x01\x02\n\nEST5,\xff"[random.Intn(20)])
		}
		checkModel(t, b)
	}
}

// invalid is a file that is not valid, and its error.
type invalid struct {
	name   string
	change func(f *api.File)
	want   api.Errno
}

// invalids break each rule of a file of version 2.
func invalids() []invalid {
	list := []invalid{
		{"version 0", func(f *api.File) { f.Version = 0 }, api.ErrVersion},
		{"version 5", func(f *api.File) { f.Version = 5 }, api.ErrVersion},
		{"version -1", func(f *api.File) { f.Version = -1 }, api.ErrVersion},
		{"version byte", func(f *api.File) { f.Version = '2' }, api.ErrVersion},
		{"version 1 with a second block", func(f *api.File) { f.Version, f.Footer = 1, "" }, api.ErrArg},
		{"version 1 with a footer", func(f *api.File) { f.Version, f.V2 = 1, api.Block{} }, api.ErrArg},
		{"no first block", func(f *api.File) { f.V1 = api.Block{} }, api.ErrCount},
		{"no second block", func(f *api.File) { f.V2 = api.Block{} }, api.ErrCount},
		{"a time of 8 bytes", func(f *api.File) { f.V1.Times[4]++ }, api.ErrArg},
		{"a leap second of 8 bytes", func(f *api.File) { f.V1.Leaps[2].At = 1 << 31 }, api.ErrArg},
		{"no rule", func(f *api.File) { f.Footer = "EST5EDT" }, api.ErrFooter},
		{"a newline in the footer", func(f *api.File) { f.Footer = newYork + "\n" }, api.ErrFooter},
		{"a newline as the footer", func(f *api.File) { f.Footer = "\n" }, api.ErrFooter},
		{"an extended rule", func(f *api.File) { f.Footer = "EST5EDT,M3.2.0/-1,M11.1.0" }, api.ErrHours},
		{"another rule", func(f *api.File) { f.Footer = "CST6CDT,M3.2.0,M11.1.0" }, api.ErrMismatch},
	}
	for i := range 2 {
		add := func(name string, want api.Errno, change func(b *api.Block)) {
			list = append(list, invalid{fmt.Sprintf("%s in block %d", name, i+1), func(f *api.File) { change([]*api.Block{&f.V1, &f.V2}[i]) }, want})
		}
		add("fewer indices", api.ErrCount, func(b *api.Block) { b.Index = b.Index[1:] })
		add("more indices", api.ErrCount, func(b *api.Block) { b.Index = append(b.Index, 0) })
		add("no type", api.ErrCount, func(b *api.Block) { b.Types, b.Std, b.Ut = nil, nil, nil })
		add("no designation byte", api.ErrCount, func(b *api.Block) { b.Chars = nil })
		add("one standard indicator", api.ErrCount, func(b *api.Block) { b.Std = b.Std[:1] })
		add("one UT indicator", api.ErrCount, func(b *api.Block) { b.Ut = b.Ut[:1] })
		add("equal times", api.ErrOrder, func(b *api.Block) { b.Times[1] = b.Times[0] })
		add("type index", api.ErrIndex, func(b *api.Block) { b.Index[0] = 4 })
		add("the smallest offset", api.ErrOffset, func(b *api.Block) { b.Types[0].Offset = math.MinInt32 })
		add("designation index", api.ErrIndex, func(b *api.Block) { b.Types[0].Desig = 200 })
		add("no final NUL", api.ErrDesignation, func(b *api.Block) { b.Chars = append(b.Chars, 'x') })
		add("a wrong correction", api.ErrLeap, func(b *api.Block) { b.Leaps[0].Corr = 5 })
		add("a UT indicator alone", api.ErrIndicator, func(b *api.Block) { b.Std = nil })
	}
	return list
}

// P21.2: each rule of a valid file broken, and pairs of them, of which layer 20
// tells which one determines the error.
func TestInvalidFiles(t *testing.T) {
	checkInvalid(t, api.File{}, api.ErrVersion)
	for _, x := range invalids() {
		t.Run(x.name, func(t *testing.T) {
			f := full(2)
			x.change(&f)
			checkInvalid(t, f, x.want)
			for version := 2; version <= 4; version++ {
				f := full(version)
				x.change(&f)
				if why := validate.File(f); why != api.OK {
					checkInvalid(t, f, why)
				} else if x.want != api.ErrHours {
					t.Errorf("version %d: error 0, want %d", version, x.want)
				} else {
					checkAccepted(t, encoded(f), f)
				}
			}
		})
	}
	f := full(1)
	f.Footer = "UTC0"
	checkInvalid(t, f, api.ErrArg)
	f = full(1)
	f.V2.Ut = make([]bool, 1)
	checkInvalid(t, f, api.ErrArg)
	f = full(1)
	f.V1.Times[4]++
	checkInvalid(t, f, api.ErrArg)
}

// P21.2: pairs of rules broken, where layer 20 tells which one determines the
// error. Changes that need what others have taken away are left out.
func TestPairsOfInvalid(t *testing.T) {
	tryBoth := func(x, y invalid) (f api.File, ok bool) {
		defer func() { ok = recover() == nil }()
		f = full(2)
		x.change(&f)
		y.change(&f)
		return f, true
	}
	checked := 0
	for _, x := range invalids() {
		for _, y := range invalids() {
			if f, ok := tryBoth(x, y); ok && validate.File(f) != api.OK {
				checkInvalid(t, f, validate.File(f))
				checked++
			}
		}
	}
	if checked < 1000 {
		t.Errorf("%d pairs only", checked)
	}
}

// allocated tells how many bytes of memory f takes.
func allocated(f func()) uint64 {
	var before, after runtime.MemStats
	runtime.ReadMemStats(&before)
	f()
	runtime.ReadMemStats(&after)
	return after.TotalAlloc - before.TotalAlloc
}

// P21.1: counts that the input cannot hold take no memory, in both headers.
func TestHugeCounts(t *testing.T) {
	for version := 1; version <= 4; version++ {
		for kind := range 6 {
			for _, n := range []int{1 << 16, 1 << 28, 1 << 31, 0xaaaaaaab, math.MaxUint32} {
				for i := range 2 {
					p := partsOf(full(version))
					h := [][]byte{p.header1, p.header2}[i]
					if len(h) == 0 {
						continue
					}
					setCount(h, kind, n)
					if kind == isUt || kind == isStd || kind == typ {
						setCount(h, isUt, n)
						setCount(h, isStd, n)
						setCount(h, typ, n)
					}
					b := p.bytes()
					checkRejected(t, b, api.ErrTruncated, len(b))
					if taken := allocated(func() { tzfile.Parse(b) }); taken > 1<<16 {
						t.Errorf("count %d of %d takes %d bytes of memory", kind, n, taken)
					}
				}
			}
		}
	}
}

// P21.1, P21.2: long lists and a long footer.
func TestLongLists(t *testing.T) {
	f := smallest(2)
	b := api.Block{Types: make([]api.Type, 256), Chars: bytes.Repeat([]byte("ABC\x00"), 1<<16), Std: make([]bool, 256), Ut: make([]bool, 256)}
	for i := range 1 << 16 {
		b.Times, b.Index = append(b.Times, int64(i)), append(b.Index, uint8(i))
	}
	f.V1, f.V2 = b, b
	checkAccepted(t, encoded(f), f)
	f.Footer = strings.Repeat("z", 1<<20)
	checkInvalid(t, f, api.ErrFooter)
	checkRejected(t, encoded(f), api.ErrFooter, partsOf(f).text())
}

// P21.4: neither the input nor its unused capacity is modified.
func TestArgumentsStay(t *testing.T) {
	for version := 1; version <= 4; version++ {
		for _, x := range append(damages(version), damage{apply: func(*parts) {}}) {
			p := partsOf(full(version))
			x.apply(&p)
			b := append(p.bytes(), bytes.Repeat([]byte{0x5a}, 100)...)
			before := bytes.Clone(b)
			tzfile.Parse(b[:len(b)-100])
			if !bytes.Equal(b, before) {
				t.Fatalf("%s: the input is modified", x.name)
			}
		}
		for _, x := range append(invalids(), invalid{change: func(*api.File) {}}) {
			f := full(max(version, 2))
			x.change(&f)
			f.V1, f.V2 = withRoom(f.V1), withRoom(f.V2)
			before := text(whole(f))
			tzfile.Serialize(f)
			if text(whole(f)) != before {
				t.Fatalf("%s: the file is modified", x.name)
			}
		}
	}
}

// withRoom has lists of its own, with unused capacity that is not zero.
func withRoom(b api.Block) api.Block {
	return api.Block{
		Times: append(slices.Clone(b.Times), 1, 2, 3)[:len(b.Times)], Index: append(slices.Clone(b.Index), 1, 2, 3)[:len(b.Index)],
		Types: append(slices.Clone(b.Types), api.Type{Offset: 9}, api.Type{Desig: 9})[:len(b.Types)], Chars: append(slices.Clone(b.Chars), "xyz"...)[:len(b.Chars)],
		Leaps: append(slices.Clone(b.Leaps), api.Leap{At: 9}, api.Leap{Corr: 9})[:len(b.Leaps)],
		Std:   append(slices.Clone(b.Std), true, true)[:len(b.Std)], Ut: append(slices.Clone(b.Ut), true, true)[:len(b.Ut)],
	}
}

// whole shows the unused capacity of all lists, too.
func whole(f api.File) api.File {
	for _, b := range []*api.Block{&f.V1, &f.V2} {
		b.Times, b.Index, b.Types, b.Chars = b.Times[:cap(b.Times)], b.Index[:cap(b.Index)], b.Types[:cap(b.Types)], b.Chars[:cap(b.Chars)]
		b.Leaps, b.Std, b.Ut = b.Leaps[:cap(b.Leaps)], b.Std[:cap(b.Std)], b.Ut[:cap(b.Ut)]
	}
	return f
}

// overwriters change all elements of one list each, up to its capacity.
func overwriters(f *api.File) []func() {
	var list []func()
	for _, b := range []*api.Block{&f.V1, &f.V2} {
		list = append(list,
			func() { fill(b.Times, 77) }, func() { fill(b.Index, 77) }, func() { fill(b.Types, api.Type{Offset: 77, Dst: true, Desig: 77}) },
			func() { fill(b.Chars, '!') }, func() { fill(b.Leaps, api.Leap{At: 77, Corr: 77}) },
			func() { invert(b.Std) }, func() { invert(b.Ut) },
		)
	}
	return list
}

func fill[T any](list []T, v T) {
	list = list[:cap(list)]
	for i := range list {
		list[i] = v
	}
}

func invert(list []bool) {
	list = list[:cap(list)]
	for i := range list {
		list[i] = !list[i]
	}
}

// listsOf tells each list of f by itself.
func listsOf(f api.File) []string {
	var list []string
	for _, b := range []api.Block{f.V1, f.V2} {
		list = append(list, fmt.Sprint(b.Times), fmt.Sprint(b.Index), fmt.Sprint(b.Types), fmt.Sprint(b.Chars), fmt.Sprint(b.Leaps), fmt.Sprint(b.Std), fmt.Sprint(b.Ut))
	}
	return list
}

// P21.4: changing the input changes no file, and changing a list of a file
// changes neither the input, nor another list, nor another file.
func TestParsedFilesShareNothing(t *testing.T) {
	for version := 1; version <= 4; version++ {
		b := encoded(full(version))
		before := bytes.Clone(b)
		other, _, _ := tzfile.Parse(b)
		for i := range overwriters(&other) {
			f, why, _ := tzfile.Parse(b)
			lists := listsOf(f)
			overwriters(&f)[i]()
			after := listsOf(f)
			isEmpty := lists[i] == "[]"
			if why != api.OK || after[i] == lists[i] && !isEmpty {
				t.Errorf("version %d: list %d is not changed: %s", version, i, lists[i])
			}
			lists[i], after[i] = "", ""
			if !slices.Equal(after, lists) {
				t.Errorf("version %d: changing list %d changes another one", version, i)
			}
			if !bytes.Equal(b, before) || text(other) != text(full(version)) {
				t.Errorf("version %d: changing list %d changes the input or another file", version, i)
			}
		}
		fill(b, 0xee)
		if text(other) != text(full(version)) {
			t.Errorf("version %d: changing the input changes the file", version)
		}
	}
}

// P21.4: changing an encoding changes neither the file nor another encoding,
// and changing the file changes no encoding.
func TestEncodingsShareNothing(t *testing.T) {
	for version := 1; version <= 4; version++ {
		f := full(version)
		first, _ := tzfile.Serialize(f)
		again, _ := tzfile.Serialize(f)
		fill(first, 0xee)
		if text(f) != text(full(version)) || !bytes.Equal(again, encoded(f)) {
			t.Errorf("version %d: changing an encoding changes the file or another encoding", version)
		}
		for _, overwrite := range overwriters(&f) {
			overwrite()
		}
		if !bytes.Equal(again, encoded(full(version))) {
			t.Errorf("version %d: changing the file changes the encoding", version)
		}
	}
}

// P21.1, P21.2: no call depends on those before it.
func TestCallsAreIndependent(t *testing.T) {
	for range 3 {
		for version := 4; version >= 1; version-- {
			checkAccepted(t, encoded(full(version)), full(version))
			checkRejected(t, encoded(full(version))[:60], api.ErrTruncated, 60)
			checkInvalid(t, api.File{Version: version}, api.ErrCount)
			checkAccepted(t, encoded(smallest(version)), smallest(version))
		}
	}
}

// P21.2: every File is an argument; none of them causes a panic, whatever its
// lists are.
func TestEveryFileIsAnArgument(t *testing.T) {
	random := rand.New(rand.NewSource(214))
	number := func() int { return []int{0, 0, 1, 2, 3, 4, 5, -1, math.MinInt64, math.MaxInt64}[random.Intn(10)] }
	junk := func() api.Block {
		b := api.Block{
			Times: make([]int64, random.Intn(3)), Index: make([]uint8, random.Intn(3)), Types: make([]api.Type, random.Intn(3)), Chars: make([]byte, random.Intn(3)),
			Leaps: make([]api.Leap, random.Intn(3)), Std: make([]bool, random.Intn(3)), Ut: make([]bool, random.Intn(3)),
		}
		for i := range b.Times {
			b.Times[i] = int64(number())
		}
		for i := range b.Index {
			b.Index[i] = uint8(number())
		}
		for i := range b.Types {
			b.Types[i] = api.Type{Offset: int32(number()), Desig: uint8(number())}
		}
		return b
	}
	for range 50000 {
		f := api.File{Version: number(), V1: junk(), V2: junk(), Footer: []string{"", "UTC0", "\n", "\xff"}[random.Intn(4)]}
		if why := validate.File(f); why != api.OK {
			checkInvalid(t, f, why)
		} else {
			checkAccepted(t, encoded(f), f)
		}
	}
}
