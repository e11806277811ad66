package header_test

import (
	"bytes"
	"encoding/binary"
	"math"
	"slices"
	"strings"
	"testing"

	"zoneinfo/api"
	"zoneinfo/cursor"
	"zoneinfo/header"
)

const most = math.MaxUint32

// sample has counts that are consistent and differ from each other as far as
// they may, in all of their bytes.
func sample(version int) api.Header {
	return api.Header{
		Version: version,
		IsUt:    0x11223344, IsStd: 0, Leap: 0x55667788, Time: 0x99aabbcc, Type: 0x11223344, Char: 0xddeeff01,
	}
}

// small has counts of one byte each, all different: they are not consistent.
func small(version int) api.Header {
	return api.Header{Version: version, IsUt: 1, IsStd: 2, Leap: 3, Time: 4, Type: 5, Char: 6}
}

// largest has the largest counts, which are consistent.
func largest(version int) api.Header {
	return api.Header{Version: version, IsUt: most, IsStd: most, Leap: most, Time: most, Type: most, Char: most}
}

// encoded encodes by encoding/binary, which header may not use.
func encoded(h api.Header) []byte {
	b := []byte("TZif\x00")
	if h.Version > 1 {
		b[4] = '0' + byte(h.Version)
	}
	b = append(b, make([]byte, 15)...)
	for _, n := range []uint32{h.IsUt, h.IsStd, h.Leap, h.Time, h.Type, h.Char} {
		b = binary.BigEndian.AppendUint32(b, n)
	}
	return b
}

// consistent is the definition, case by case.
func consistent(h api.Header) bool {
	if h.Type == 0 || h.Char == 0 {
		return false
	}
	if h.IsUt != 0 && h.IsUt != h.Type {
		return false
	}
	return h.IsStd == 0 || h.IsStd == h.Type
}

// differs returns the index of the first byte of b that is not the one of
// want, or -1.
func differs(b []byte, want string) int {
	for i := range want {
		if b[i] != want[i] {
			return i
		}
	}
	return -1
}

// fault is what the chapter says of the bytes b in front of which a cursor
// stands: the first error, where it lies and where the cursor stands with it,
// both counted from the header. Without one it is OK, 0 and 44.
func fault(b []byte) (why api.Errno, at, pos int) {
	if len(b) < 4 {
		return api.ErrTruncated, len(b), 0
	}
	if i := differs(b[:4], "TZif"); i >= 0 {
		return api.ErrMagic, i, 0
	}
	if len(b) < 5 {
		return api.ErrTruncated, len(b), 4
	}
	if !strings.ContainsRune("\x00234", rune(b[4])) {
		return api.ErrVersion, 4, 4
	}
	if len(b) < 20 {
		return api.ErrTruncated, len(b), 5
	}
	if i := differs(b[5:20], strings.Repeat("\x00", 15)); i >= 0 {
		return api.ErrReserved, 5 + i, 5
	}
	for start := 20; start < 44; start += 4 {
		if len(b) < start+4 {
			return api.ErrTruncated, len(b), start
		}
	}
	if !consistent(decoded(b)) {
		return api.ErrCount, 0, 44
	}
	return api.OK, 0, 44
}

// decoded is the header of 44 bytes that have no fault or inconsistent counts.
func decoded(b []byte) api.Header {
	count := func(i int) uint32 { return binary.BigEndian.Uint32(b[20+4*i:]) }
	return api.Header{
		Version: 1 + strings.IndexByte("\x00234", b[4]),
		IsUt:    count(0), IsStd: count(1), Leap: count(2), Time: count(3), Type: count(4), Char: count(5),
	}
}

func checkConsistent(t *testing.T, h api.Header, want bool) {
	t.Helper()
	if got := header.Consistent(h); got != want {
		t.Errorf("Consistent(%+v) = %v, want %v", h, got, want)
	}
}

func checkEncode(t *testing.T, h api.Header, want []byte) {
	t.Helper()
	if got := header.Encode(h); !bytes.Equal(got, want) {
		t.Errorf("Encode(%+v) = % x, want % x", h, got, want)
	}
}

// checkDecode holds Data against each other by address, because the cursors of
// one input share it.
func checkDecode(t *testing.T, c api.Cursor, h api.Header, after api.Cursor) {
	t.Helper()
	got, c2 := header.Decode(c)
	if got != h {
		t.Errorf("Decode of % x at %d = %+v, want %+v", c.Data, c.Pos, got, h)
	}
	shared := len(c2.Data) == len(after.Data) && (len(c2.Data) == 0 || &c2.Data[0] == &after.Data[0])
	if !shared || c2.Pos != after.Pos || c2.Err != after.Err || c2.At != after.At {
		t.Errorf("Decode of % x at %d: error %d at %d, position %d, want error %d at %d, position %d (Data shared: %v)",
			c.Data, c.Pos, c2.Err, c2.At, c2.Pos, after.Err, after.At, after.Pos, shared)
	}
}

// places calls yield with cursors in front of b, where b is the end of inputs
// of different lengths.
func places(b []byte, yield func(c api.Cursor)) {
	for _, before := range []int{0, 1, 44, 51} {
		input := append(bytes.Repeat([]byte{'T'}, before), b...)
		yield(api.Cursor{Data: input, Pos: before})
	}
}

// checkFault decodes b, which has the error why, at several places of inputs.
func checkFault(t *testing.T, b []byte, why api.Errno, at, pos int) {
	t.Helper()
	places(b, func(c api.Cursor) {
		t.Helper()
		after := api.Cursor{Data: c.Data, Pos: c.Pos + pos, Err: why, At: c.Pos + at}
		checkDecode(t, c, api.Header{}, after)
	})
}

// checkBytes decodes b at several places of inputs.
func checkBytes(t *testing.T, b []byte) {
	t.Helper()
	why, at, pos := fault(b)
	if why != api.OK {
		checkFault(t, b, why, at, pos)
		return
	}
	places(b, func(c api.Cursor) {
		t.Helper()
		checkDecode(t, c, decoded(b), api.Cursor{Data: c.Data, Pos: c.Pos + 44})
	})
}

// P13.1: each of the counts that are looked at, the other ones being right.
func TestConsistent(t *testing.T) {
	for _, x := range []struct {
		isUt, isStd, types, chars uint32
		want                      bool
	}{
		{0, 0, 1, 1, true},
		{0, 0, 0, 1, false},
		{0, 0, 1, 0, false},
		{0, 0, 0, 0, false},
		{1, 1, 1, 1, true},
		{0, 0, 5, 3, true},
		{5, 0, 5, 3, true},
		{0, 5, 5, 3, true},
		{5, 5, 5, 3, true},
		{4, 0, 5, 3, false},
		{6, 0, 5, 3, false},
		{0, 4, 5, 3, false},
		{0, 6, 5, 3, false},
		{5, 4, 5, 3, false},
		{4, 5, 5, 3, false},
		{4, 4, 5, 3, false},
		{3, 0, 5, 3, false},
		{0, 3, 5, 3, false},
		{5, 5, 5, 0, false},
		{5, 5, 0, 3, false},
		{1, 0, 0, 3, false},
		{0, 1, 2, 3, false},
		{1, 0, 2, 3, false},
		{most, most, most, most, true},
		{0, most, most, 1, true},
		{most, 0, most, 1, true},
		{most - 1, 0, most, 1, false},
		{0, most - 1, most, 1, false},
		{most, most, most - 1, most, false},
		{most, most, most, 0, false},
		{most, most, 0, most, false},
	} {
		checkConsistent(t, api.Header{Version: 1, IsUt: x.isUt, IsStd: x.isStd, Type: x.types, Char: x.chars}, x.want)
	}
}

// P13.1: all combinations of small and large counts; numbers that agree in
// some of their bytes are among them.
func TestConsistentEverywhere(t *testing.T) {
	values := []uint32{0, 1, 2, 3, 255, 256, 257, 1 << 16, 1<<16 + 1, 1 << 24, 1 << 31, most - 1, most}
	for _, isUt := range values {
		for _, isStd := range values {
			for _, types := range values {
				for _, chars := range values {
					h := api.Header{Version: 2, IsUt: isUt, IsStd: isStd, Type: types, Char: chars}
					checkConsistent(t, h, consistent(h))
				}
			}
		}
	}
}

// P13.1: the version and the numbers of leap seconds and transitions do not
// matter, and every version is allowed.
func TestConsistentOfOtherFields(t *testing.T) {
	for _, version := range []int{math.MinInt, -1, 0, 1, 2, 3, 4, 5, math.MaxInt} {
		for _, n := range []uint32{0, 1, 4, 5, 6, most} {
			for _, m := range []uint32{0, 1, 4, 5, 6, most} {
				h := api.Header{Version: version, IsUt: 5, IsStd: 5, Leap: n, Time: m, Type: 5, Char: 4}
				checkConsistent(t, h, true)
				h.IsStd = 4
				checkConsistent(t, h, false)
			}
		}
	}
}

// P13.1: literal bytes.
func TestKnownEncodings(t *testing.T) {
	reserved := strings.Repeat("\x00", 15)
	ones := "\x00\x00\x00\x01\x00\x00\x00\x02\x00\x00\x00\x03\x00\x00\x00\x04\x00\x00\x00\x05\x00\x00\x00\x06"
	all := strings.Repeat("\xff", 24)
	for version, first := range map[int]string{1: "TZif\x00", 2: "TZif2", 3: "TZif3", 4: "TZif4"} {
		checkEncode(t, small(version), []byte(first+reserved+ones))
		checkEncode(t, largest(version), []byte(first+reserved+all))
		checkEncode(t, api.Header{Version: version}, []byte(first+reserved+strings.Repeat("\x00", 24)))
		checkEncode(t, sample(version), []byte(first+reserved+
			"\x11\x22\x33\x44\x00\x00\x00\x00\x55\x66\x77\x88\x99\xaa\xbb\xcc\x11\x22\x33\x44\xdd\xee\xff\x01"))
	}
}

// P13.1: each bit of each count alone, and the length of what is returned.
func TestEncodeEverywhere(t *testing.T) {
	for version := 1; version <= 4; version++ {
		for bit := range 32 {
			n := uint32(1) << bit
			for _, h := range []api.Header{{IsUt: n}, {IsStd: n}, {Leap: n}, {Time: n}, {Type: n}, {Char: n}} {
				h.Version = version
				checkEncode(t, h, encoded(h))
				if size := len(header.Encode(h)); size != api.HeaderSize {
					t.Errorf("Encode(%+v) has %d bytes", h, size)
				}
			}
		}
	}
}

// The chapter's example, and the one of DOC.md: 0x33 is version 3, and 0x31 is
// no version.
func TestExamples(t *testing.T) {
	if b := header.Encode(sample(3)); len(b) < 5 || b[4] != 0x33 {
		t.Errorf("the encoding of version 3 is % x", b)
	}
	b := encoded(sample(3))
	b[4] = 0x31
	checkDecode(t, cursor.New(b), api.Header{}, api.Cursor{Data: b, Pos: 4, Err: api.ErrVersion, At: 4})
}

// P13.2: literal bytes at the beginning of an input, of each version, with and
// without bytes behind them.
func TestKnownDecodings(t *testing.T) {
	counts := "\x00\x00\x00\x05\x00\x00\x00\x05\x00\x00\x00\x03\x00\x01\x00\x04\x00\x00\x00\x05\x06\x00\x00\x00"
	for version, first := range map[int]string{1: "TZif\x00", 2: "TZif2", 3: "TZif3", 4: "TZif4"} {
		for _, behind := range []string{"", "\x00", "x", "TZif", strings.Repeat("\xff", 50)} {
			b := []byte(first + strings.Repeat("\x00", 15) + counts + behind)
			want := api.Header{Version: version, IsUt: 5, IsStd: 5, Leap: 3, Time: 0x10004, Type: 5, Char: 0x6000000}
			checkDecode(t, cursor.New(b), want, api.Cursor{Data: b, Pos: 44})
		}
	}
}

// P13.2: headers in the middle of an input, one after the other.
func TestDecodeInTheMiddle(t *testing.T) {
	list := []api.Header{sample(4), largest(1), {Version: 2, Type: 1, Char: 1}, {Version: 3, IsStd: 2, Type: 2, Char: 8}, sample(1)}
	input := []byte("before")
	for _, h := range list {
		input = append(input, encoded(h)...)
	}
	input = append(input, "behind"...)
	c := api.Cursor{Data: input, Pos: 6}
	for i, h := range list {
		checkDecode(t, c, h, api.Cursor{Data: input, Pos: 6 + 44*(i+1)})
		_, c = header.Decode(c)
	}
	checkDecode(t, c, api.Header{}, api.Cursor{Data: input, Pos: c.Pos, Err: api.ErrMagic, At: c.Pos})
}

// P13.2: a cursor that has an error is returned as it is, whatever it stands
// in front of.
func TestDecodeAfterAnError(t *testing.T) {
	good := encoded(sample(2))
	bad := encoded(small(2))
	for _, b := range [][]byte{good, bad, good[:43], []byte("XXXX"), nil} {
		for why := api.Errno(1); why <= api.MaxErr; why++ {
			for _, pos := range []int{0, len(b) / 2, len(b)} {
				for _, at := range []int{0, 3, len(b)} {
					c := api.Cursor{Data: b, Pos: pos, Err: why, At: at}
					checkDecode(t, c, api.Header{}, c)
				}
			}
		}
	}
}

// P13.2: an input that ends before each of the bytes. The cursor stands in
// front of the part that is not there as a whole.
func TestTruncated(t *testing.T) {
	for version := 1; version <= 4; version++ {
		b := encoded(sample(version))
		for size := range 44 {
			pos := size / 4 * 4
			switch {
			case size == 4:
				pos = 4
			case size >= 5 && size < 20:
				pos = 5
			}
			checkFault(t, b[:size], api.ErrTruncated, size, pos)
			checkFault(t, b[:size:size], api.ErrTruncated, size, pos)
		}
	}
}

// P13.2: the parts in front of which the cursor stands, as literal numbers.
func TestTruncatedParts(t *testing.T) {
	b := encoded(largest(3))
	for size, pos := range map[int]int{0: 0, 3: 0, 4: 4, 5: 5, 6: 5, 19: 5, 20: 20, 23: 20, 24: 24, 27: 24, 28: 28, 31: 28, 32: 32, 35: 32, 36: 36, 39: 36, 40: 40, 43: 40} {
		input := append([]byte("before"), b[:size]...)
		after := api.Cursor{Data: input, Pos: 6 + pos, Err: api.ErrTruncated, At: 6 + size}
		checkDecode(t, api.Cursor{Data: input, Pos: 6}, api.Header{}, after)
	}
}

// P13.2: each byte of the magic number with every wrong value.
func TestWrongMagic(t *testing.T) {
	for i := range 4 {
		for wrong := range 256 {
			b := encoded(sample(2))
			if b[i] == byte(wrong) {
				continue
			}
			b[i] = byte(wrong)
			checkFault(t, b, api.ErrMagic, i, 0)
		}
	}
}

// P13.2: several wrong bytes of the magic number, of which the first one
// counts.
func TestSeveralWrongMagic(t *testing.T) {
	for set := 1; set < 16; set++ {
		b := encoded(sample(4))
		first := -1
		for i := range 4 {
			if set>>i&1 != 0 {
				b[i] ^= 0x20
				if first < 0 {
					first = i
				}
			}
		}
		checkFault(t, b, api.ErrMagic, first, 0)
	}
	checkFault(t, []byte("fiZT"), api.ErrMagic, 0, 0)
	checkFault(t, []byte("TZiftzif")[4:], api.ErrMagic, 0, 0)
}

// P13.2: each value of the version byte.
func TestVersionBytes(t *testing.T) {
	versions := map[byte]int{0: 1, 0x32: 2, 0x33: 3, 0x34: 4}
	for v := range 256 {
		b := encoded(sample(2))
		b[4] = byte(v)
		version, isKnown := versions[byte(v)]
		if !isKnown {
			checkFault(t, b, api.ErrVersion, 4, 4)
			continue
		}
		places(b, func(c api.Cursor) {
			checkDecode(t, c, sample(version), api.Cursor{Data: c.Data, Pos: c.Pos + 44})
		})
	}
}

// P13.2: each reserved byte with every value that is not zero.
func TestReserved(t *testing.T) {
	for i := 5; i < 20; i++ {
		for v := 1; v < 256; v++ {
			b := encoded(sample(3))
			b[i] = byte(v)
			checkFault(t, b, api.ErrReserved, i, 5)
		}
	}
}

// P13.2: every set of reserved bytes that are not zero: the first one counts.
func TestSeveralReserved(t *testing.T) {
	for set := 1; set < 1<<15; set++ {
		b := encoded(sample(1))
		first := -1
		for i := range 15 {
			if set>>i&1 != 0 {
				b[5+i] = byte(0xff - i)
				if first < 0 {
					first = 5 + i
				}
			}
		}
		after := api.Cursor{Data: b, Pos: 5, Err: api.ErrReserved, At: first}
		checkDecode(t, cursor.New(b), api.Header{}, after)
	}
}

// P13.2: counts that are not consistent, each way: the error is that of the
// header as a whole, and the cursor stands behind it.
func TestInconsistentCounts(t *testing.T) {
	for version := 1; version <= 4; version++ {
		for _, h := range []api.Header{
			{Type: 0, Char: 1},
			{Type: 1, Char: 0},
			{},
			{IsUt: 1, Type: 2, Char: 1},
			{IsUt: 3, Type: 2, Char: 1},
			{IsStd: 1, Type: 2, Char: 1},
			{IsStd: 3, Type: 2, Char: 1},
			{IsUt: 2, IsStd: 1, Type: 2, Char: 1},
			{IsUt: 1, IsStd: 2, Type: 2, Char: 1},
			{IsUt: 1, IsStd: 1, Type: 2, Char: 1},
			{IsUt: most, Type: most - 1, Char: 1},
			{IsStd: 1 << 24, Type: 1, Char: 1},
			{Leap: 1, Time: 1},
			small(1),
		} {
			h.Version = version
			checkFault(t, encoded(h), api.ErrCount, 0, 44)
			checkFault(t, append(encoded(h), "behind"...), api.ErrCount, 0, 44)
		}
	}
}

// P13.2: all combinations of small counts.
func TestDecodeSmallCounts(t *testing.T) {
	for code := range 4 * 4 * 4 * 4 {
		h := api.Header{
			Version: 1 + code%4, Leap: uint32(code), Time: 7,
			IsUt: uint32(code & 3), IsStd: uint32(code >> 2 & 3), Type: uint32(code >> 4 & 3), Char: uint32(code >> 6 & 3),
		}
		checkBytes(t, encoded(h))
	}
}

// P13.2: what is not there is missed before what is there is looked at, part
// by part: literal cases.
func TestKnownFaults(t *testing.T) {
	zeros := strings.Repeat("\x00", 15)
	for _, x := range []struct {
		b       string
		why     api.Errno
		at, pos int
	}{
		{"", api.ErrTruncated, 0, 0},
		{"X", api.ErrTruncated, 1, 0},
		{"TZx", api.ErrTruncated, 3, 0},
		{"TZix", api.ErrMagic, 3, 0},
		{"TxiX1", api.ErrMagic, 1, 0},
		{"TZif", api.ErrTruncated, 4, 4},
		{"TZif1", api.ErrVersion, 4, 4},
		{"TZif5" + zeros, api.ErrVersion, 4, 4},
		{"TZif\x01" + zeros, api.ErrVersion, 4, 4},
		{"TZif\x02\x01", api.ErrVersion, 4, 4},
		{"TZif2\x01", api.ErrTruncated, 6, 5},
		{"TZif2" + strings.Repeat("\x01", 14), api.ErrTruncated, 19, 5},
		{"TZif2" + strings.Repeat("\x01", 15), api.ErrReserved, 5, 5},
		{"TZif2" + zeros[:14] + "\x01", api.ErrReserved, 19, 5},
		{"TZif2" + zeros, api.ErrTruncated, 20, 20},
		{"TZif2" + zeros + strings.Repeat("\x00", 23), api.ErrTruncated, 43, 40},
		{"TZif2" + zeros + strings.Repeat("\x00", 24), api.ErrCount, 0, 44},
	} {
		checkFault(t, []byte(x.b), x.why, x.at, x.pos)
	}
}

// P13.2: every set of faults in inputs of every length up to one byte behind
// the header.
func TestSeveralFaults(t *testing.T) {
	for set := range 1 << 6 {
		h := sample(2)
		if set&1 != 0 {
			h.Type = 7
		}
		b := append(encoded(h), 'x')
		for bit, i := range []int{0, 3, 4, 5, 19} {
			if set>>(bit+1)&1 != 0 {
				b[i] ^= 0x81
			}
		}
		for size := range len(b) + 1 {
			checkBytes(t, b[:size])
		}
	}
}

// P13.2: each byte of an encoding with every value.
func TestDecodeEveryByte(t *testing.T) {
	for i := range 44 {
		for v := range 256 {
			b := encoded(api.Header{Version: 2, IsUt: 2, IsStd: 2, Leap: 1, Time: 3, Type: 2, Char: 4})
			b[i] = byte(v)
			checkBytes(t, b)
		}
	}
}

// headers are headers with consistent counts.
func headers() []api.Header {
	var list []api.Header
	values := []uint32{0, 1, 2, 0x7f, 0x80, 0xff, 0x100, 0x8000, 0x10000, 0x12345678, 1 << 31, most - 1, most}
	for i, n := range values {
		for _, m := range values {
			for kind := range 4 {
				h := api.Header{Version: 1 + (i+kind)%4, Leap: n, Time: m, Type: max(n, 1), Char: max(m, 1)}
				if kind&1 != 0 {
					h.IsUt = h.Type
				}
				if kind&2 != 0 {
					h.IsStd = h.Type
				}
				list = append(list, h)
			}
		}
	}
	return list
}

// P13.3: the encoding of a header with consistent counts is decoded to it, and
// what was decoded is encoded to what was read.
func TestRoundTrips(t *testing.T) {
	for _, h := range headers() {
		b := header.Encode(h)
		got, c := header.Decode(cursor.New(b))
		if got != h || c.Err != api.OK || c.Pos != len(b) {
			t.Errorf("decoding the encoding of %+v gives %+v, error %d at %d", h, got, c.Err, c.Pos)
		}
		read := encoded(h)
		got, _ = header.Decode(cursor.New(read))
		checkEncode(t, got, read)
	}
}

// P13.3: whatever 44 bytes are decoded, their header has consistent counts and
// is encoded to them.
func TestDecodedIsEncodedAgain(t *testing.T) {
	accepted := 0
	for _, h := range headers()[:100] {
		for i := range 44 {
			for _, flip := range []byte{0x01, 0x03, 0x30, 0x31, 0x33, 0x80, 0xff} {
				b := encoded(h)
				b[i] ^= flip
				got, c := header.Decode(cursor.New(b))
				if c.Err != api.OK {
					continue
				}
				accepted++
				checkConsistent(t, got, true)
				checkEncode(t, got, b)
			}
		}
	}
	if accepted == 0 {
		t.Error("no changed encoding was decoded")
	}
}

// DOC.md, rule 5: no call writes to its arguments or to the unused capacity
// behind them.
func TestArgumentsStay(t *testing.T) {
	whole := append(encoded(sample(2)), encoded(small(3))...)
	whole = append(whole, "TZif5"+strings.Repeat("\xee", 60)...)
	before := slices.Clone(whole)
	for size := range len(whole) + 1 {
		for pos := range size + 1 {
			header.Decode(api.Cursor{Data: whole[:size], Pos: pos})
		}
	}
	if !bytes.Equal(whole, before) {
		t.Errorf("the input became % x", whole)
	}
}

// DOC.md, rule 5: an encoding is memory of its own in each call, and a header
// does not change with the bytes that it was read from.
func TestResultsAreNew(t *testing.T) {
	h := sample(4)
	b, other := header.Encode(h), header.Encode(h)
	_ = append(b, 'x')
	for i := range b {
		b[i] ^= 0x5a
	}
	if !bytes.Equal(other, encoded(h)) {
		t.Errorf("an encoding changed another one to % x", other)
	}
	checkEncode(t, h, encoded(h))

	input := encoded(h)
	got, _ := header.Decode(cursor.New(input))
	clear(input)
	if got != h {
		t.Errorf("the header became %+v with its input", got)
	}
}

// What the chapter leaves open does not panic: LANGUAGE.md, rule 4.
func TestUnspecified(t *testing.T) {
	for _, version := range []int{math.MinInt, -1, 0, 5, 6, 0x32, 256, math.MaxInt} {
		header.Encode(sample(version))
	}
	b := encoded(sample(2))
	for _, data := range [][]byte{b, b[:43], b[:20], nil} {
		for _, pos := range []int{math.MinInt, -45, -44, -1, 45, 1000, math.MaxInt - 43, math.MaxInt} {
			for _, why := range []api.Errno{api.OK, api.ErrArg, -1} {
				got, c := header.Decode(api.Cursor{Data: data, Pos: pos, Err: why, At: pos})
				if got != (api.Header{}) || c.Err == api.OK {
					t.Errorf("Decode of %d bytes at %d = %+v, error %d", len(data), pos, got, c.Err)
				}
			}
		}
	}
}
