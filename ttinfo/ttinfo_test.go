package ttinfo_test

import (
	"bytes"
	"encoding/binary"
	"encoding/hex"
	"math"
	"math/rand"
	"slices"
	"strings"
	"testing"

	"zoneinfo/api"
	"zoneinfo/ttinfo"
)

// The smallest and the largest offsets that 4 bytes hold.
const (
	minOffset = math.MinInt32
	maxOffset = math.MaxInt32
)

// bytesOf reads digits of base 16, with blanks between them where they help.
func bytesOf(t *testing.T, digits string) []byte {
	t.Helper()
	b, err := hex.DecodeString(strings.ReplaceAll(digits, " ", ""))
	if err != nil {
		t.Fatal(err)
	}
	return b
}

func checkDecode(t *testing.T, b []byte, want []api.Type) {
	t.Helper()
	if got, ok := ttinfo.Decode(b); !slices.Equal(got, want) || !ok {
		t.Errorf("Decode(% x) = %v, %v, want %v, true", b, got, ok, want)
	}
}

func checkNotDecoded(t *testing.T, b []byte) {
	t.Helper()
	if got, ok := ttinfo.Decode(b); got != nil || ok {
		t.Errorf("Decode(% x) = %v, %v, want nil, false", b, got, ok)
	}
}

func checkEncode(t *testing.T, types []api.Type, want []byte) {
	t.Helper()
	if got := ttinfo.Encode(types); !bytes.Equal(got, want) {
		t.Errorf("Encode(%v) = % x, want % x", types, got, want)
	}
}

// checkBoth checks that digits encode the types, in both directions.
func checkBoth(t *testing.T, types []api.Type, digits string) {
	t.Helper()
	checkEncode(t, types, bytesOf(t, digits))
	checkDecode(t, bytesOf(t, digits), types)
}

func checkCheck(t *testing.T, types []api.Type, n int, want api.Errno) {
	t.Helper()
	if got := ttinfo.Check(types, n); got != want {
		t.Errorf("Check(%v, %d) = %d, want %d", types, n, got, want)
	}
}

func checkPlaceholder(t *testing.T, x api.Type, name string, want bool) {
	t.Helper()
	if got := ttinfo.Placeholder(x, name); got != want {
		t.Errorf("Placeholder(%v, %q) = %v, want %v", x, name, got, want)
	}
}

// P16.1: the chapter's example.
func TestExample(t *testing.T) {
	checkBoth(t, []api.Type{{Offset: -18000, Desig: 4}}, "ff ff b9 b0 00 04")
}

// P16.1: no types are no bytes.
func TestNoTypes(t *testing.T) {
	checkEncode(t, nil, nil)
	checkEncode(t, []api.Type{}, nil)
	checkDecode(t, nil, nil)
	checkDecode(t, []byte{}, nil)
}

// P16.1: one type, in both directions.
func TestOneType(t *testing.T) {
	for _, x := range []struct {
		kind   api.Type
		digits string
	}{
		{api.Type{}, "00000000 00 00"},
		{api.Type{Offset: 1}, "00000001 00 00"},
		{api.Type{Offset: -1}, "ffffffff 00 00"},
		{api.Type{Offset: 255}, "000000ff 00 00"},
		{api.Type{Offset: 256}, "00000100 00 00"},
		{api.Type{Offset: -256}, "ffffff00 00 00"},
		{api.Type{Offset: -257}, "fffffeff 00 00"},
		{api.Type{Offset: 3600}, "00000e10 00 00"},
		{api.Type{Offset: 0x01020304}, "01020304 00 00"},
		{api.Type{Offset: -0x01020304}, "fefdfcfc 00 00"},
		{api.Type{Offset: maxOffset}, "7fffffff 00 00"},
		{api.Type{Offset: maxOffset - 1}, "7ffffffe 00 00"},
		{api.Type{Offset: minOffset}, "80000000 00 00"},
		{api.Type{Offset: minOffset + 1}, "80000001 00 00"},

		{api.Type{Dst: true}, "00000000 01 00"},
		{api.Type{Offset: -1, Dst: true}, "ffffffff 01 00"},
		{api.Type{Offset: -14400, Dst: true, Desig: 8}, "ffffc7c0 01 08"},
		{api.Type{Offset: maxOffset, Dst: true, Desig: 255}, "7fffffff 01 ff"},
		{api.Type{Offset: minOffset, Dst: true, Desig: 255}, "80000000 01 ff"},

		{api.Type{Desig: 1}, "00000000 00 01"},
		{api.Type{Desig: 2}, "00000000 00 02"},
		{api.Type{Desig: 127}, "00000000 00 7f"},
		{api.Type{Desig: 128}, "00000000 00 80"},
		{api.Type{Desig: 255}, "00000000 00 ff"},
		{api.Type{Dst: true, Desig: 1}, "00000000 01 01"},
		{api.Type{Offset: -1, Desig: 128}, "ffffffff 00 80"},
	} {
		checkBoth(t, []api.Type{x.kind}, x.digits)
	}
}

// P16.1: every flag with every designation index.
func TestFlagsAndIndexes(t *testing.T) {
	for index := range 256 {
		standard := api.Type{Offset: 7, Desig: uint8(index)}
		daylight := api.Type{Offset: 7, Dst: true, Desig: uint8(index)}
		want := []byte{0, 0, 0, 7, 0, byte(index), 0, 0, 0, 7, 1, byte(index)}
		checkEncode(t, []api.Type{standard, daylight}, want)
		checkDecode(t, want, []api.Type{standard, daylight})
	}
}

// P16.1: several types stand one behind the other in their order, each as
// often as it is there.
func TestSeveralTypes(t *testing.T) {
	lmt := api.Type{Offset: -17762}
	edt := api.Type{Offset: -14400, Dst: true, Desig: 4}
	est := api.Type{Offset: -18000, Desig: 8}
	checkBoth(t, []api.Type{lmt, edt, est}, "ffffba9e 00 00  ffffc7c0 01 04  ffffb9b0 00 08")
	checkBoth(t, []api.Type{est, edt, lmt}, "ffffb9b0 00 08  ffffc7c0 01 04  ffffba9e 00 00")
	checkBoth(t, []api.Type{edt, edt, est, edt}, "ffffc7c0 01 04  ffffc7c0 01 04  ffffb9b0 00 08  ffffc7c0 01 04")
	checkBoth(t, []api.Type{{Offset: minOffset, Desig: 255}, {Offset: maxOffset, Dst: true, Desig: 128}, {Offset: -1, Desig: 127}, {Offset: 1, Dst: true, Desig: 1}, {}},
		"80000000 00 ff  7fffffff 01 80  ffffffff 00 7f  00000001 01 01  00000000 00 00")
}

// P16.1: each byte of the bytes counts at its own place.
func TestDecodeEachPlace(t *testing.T) {
	for place := range 18 {
		for _, value := range []byte{1, 0x41, 0x80, 0xff} {
			b := make([]byte, 18)
			b[place] = value
			want := make([]api.Type, 3)
			x := &want[place/6]
			switch place % 6 {
			case 4:
				b[place] = 1
				x.Dst = true
			case 5:
				x.Desig = value
			default:
				x.Offset = int32(uint32(value) << (8 * (3 - place%6)))
			}
			checkDecode(t, b, want)
			checkEncode(t, want, b)
		}
	}
	checkDecode(t, bytesOf(t, "01020304 01 05  f0f1f2f3 00 f5  0708090a 01 0b"), []api.Type{
		{Offset: 0x01020304, Dst: true, Desig: 0x05},
		{Offset: -0x0f0e0d0d, Desig: 0xf5},
		{Offset: 0x0708090a, Dst: true, Desig: 0x0b},
	})
}

// randomTypes makes up to 20 types with offsets of all magnitudes.
func randomTypes(random *rand.Rand) []api.Type {
	types := make([]api.Type, random.Intn(20))
	for i := range types {
		types[i] = api.Type{
			Offset: int32(random.Uint32()) >> random.Intn(32),
			Dst:    random.Intn(2) == 1,
			Desig:  uint8(random.Intn(256)),
		}
	}
	return types
}

// P16.1: types of all kinds, against the library's encoding.
func TestAgainstLibrary(t *testing.T) {
	random := rand.New(rand.NewSource(16))
	for range 500 {
		types := randomTypes(random)
		var want bytes.Buffer
		for _, x := range types {
			if err := binary.Write(&want, binary.BigEndian, x); err != nil {
				t.Fatal(err)
			}
		}
		checkEncode(t, types, want.Bytes())
		checkDecode(t, want.Bytes(), types)
	}
}

// P16.1: of one record every flag byte but 0 and 1 is wrong.
func TestEveryFlagByte(t *testing.T) {
	for value := range 256 {
		b := []byte{0xff, 0xff, 0xb9, 0xb0, byte(value), 4}
		if value > 1 {
			checkNotDecoded(t, b)
		} else {
			checkDecode(t, b, []api.Type{{Offset: -18000, Dst: value == 1, Desig: 4}})
		}
	}
}

// P16.1: a wrong flag byte in any record, and in several of them.
func TestWrongFlags(t *testing.T) {
	good := bytesOf(t, "ffffba9e 00 00  ffffc7c0 01 04  ffffb9b0 00 08  00000e10 01 ff  00000000 00 02")
	wrong := []byte{2, 3, 16, 127, 128, 129, 254, 255}
	if _, ok := ttinfo.Decode(good); !ok {
		t.Fatal("the bytes without a wrong flag are not decoded")
	}
	for set := 1; set < 1<<5; set++ {
		for _, value := range wrong {
			b := bytes.Clone(good)
			for record := range 5 {
				if set>>record&1 == 1 {
					b[6*record+4] = value
				}
			}
			checkNotDecoded(t, b)
		}
	}
	for i, value := range wrong {
		b := bytes.Clone(good)
		b[4], b[28] = value, wrong[len(wrong)-1-i]
		checkNotDecoded(t, b)
	}
}

// P16.1: the bytes of an offset or of an index are never taken for a flag.
func TestOtherBytesAreNoFlags(t *testing.T) {
	for _, place := range []int{0, 1, 2, 3, 5, 6, 7, 8, 9, 11} {
		for value := range 256 {
			b := make([]byte, 12)
			b[place] = byte(value)
			if _, ok := ttinfo.Decode(b); !ok {
				t.Errorf("% x are not decoded", b)
			}
		}
	}
}

// P16.1: what lies behind the bytes in their array is not decoded.
func TestBytesBehindAreNoRecords(t *testing.T) {
	b := bytesOf(t, "ffffb9b0 00 04  00000000 ff 00")
	checkDecode(t, b[:6], []api.Type{{Offset: -18000, Desig: 4}})
	checkDecode(t, b[:0], nil)
	checkNotDecoded(t, b)
}

// P16.2: no types are valid for every table, the empty one too.
func TestCheckNoTypes(t *testing.T) {
	for _, types := range [][]api.Type{nil, {}} {
		for _, n := range []int{0, 1, 255, 256, math.MaxInt} {
			checkCheck(t, types, n, api.OK)
		}
	}
}

// P16.2: designation indexes below, at and above the length of the table.
func TestCheckIndexes(t *testing.T) {
	for n := range 300 {
		for index := range 256 {
			want := api.OK
			if index >= n {
				want = api.ErrIndex
			}
			checkCheck(t, []api.Type{{Desig: uint8(index)}}, n, want)
		}
	}
	for _, x := range []struct {
		index uint8
		n     int
		want  api.Errno
	}{
		{0, 0, api.ErrIndex},
		{0, 1, api.OK},
		{1, 1, api.ErrIndex},
		{126, 127, api.OK},
		{127, 127, api.ErrIndex},
		{128, 127, api.ErrIndex},
		{254, 255, api.OK},
		{255, 255, api.ErrIndex},
		{255, 256, api.OK},
		{0, 256, api.OK},
		{0, 1 << 32, api.OK},
		{255, 1 << 32, api.OK},
		{255, math.MaxInt, api.OK},
		{0, -1, api.ErrIndex},
		{255, math.MinInt, api.ErrIndex},
	} {
		checkCheck(t, []api.Type{{Offset: 3600, Dst: true, Desig: x.index}}, x.n, x.want)
	}
}

// P16.2: of the offsets only -2^31 is wrong.
func TestCheckOffsets(t *testing.T) {
	checkCheck(t, []api.Type{{Offset: minOffset}}, 1, api.ErrOffset)
	checkCheck(t, []api.Type{{Offset: minOffset, Dst: true}}, 1, api.ErrOffset)
	for _, offset := range []int32{minOffset + 1, -1 << 30, -604800, -1, 0, 1, 604800, 1 << 30, maxOffset - 1, maxOffset} {
		checkCheck(t, []api.Type{{Offset: offset}}, 1, api.OK)
		checkCheck(t, []api.Type{{Offset: offset, Dst: true}}, 1, api.OK)
	}
}

// P16.2: one fault, in the first, in a middle and in the last type.
func TestCheckEachPlace(t *testing.T) {
	good := []api.Type{{Offset: -17762}, {Offset: -14400, Dst: true, Desig: 4}, {Offset: minOffset + 1, Desig: 8}, {Offset: maxOffset, Desig: 11}, {}}
	checkCheck(t, good, 12, api.OK)
	checkCheck(t, good, 11, api.ErrIndex)
	for place := range good {
		for _, x := range []struct {
			kind api.Type
			want api.Errno
		}{
			{api.Type{Offset: minOffset, Desig: 4}, api.ErrOffset},
			{api.Type{Offset: minOffset, Dst: true}, api.ErrOffset},
			{api.Type{Offset: minOffset + 1, Desig: 4}, api.OK},
			{api.Type{Desig: 11}, api.OK},
			{api.Type{Desig: 12}, api.ErrIndex},
			{api.Type{Desig: 13}, api.ErrIndex},
			{api.Type{Desig: 255}, api.ErrIndex},
			{api.Type{Offset: minOffset, Desig: 12}, api.ErrOffset},
		} {
			types := slices.Clone(good)
			types[place] = x.kind
			checkCheck(t, types, 12, x.want)
		}
	}
}

// P16.2: of both faults the wrong offset counts, wherever the two are.
func TestCheckBothFaults(t *testing.T) {
	for offsetPlace := range 5 {
		for indexPlace := range 5 {
			types := make([]api.Type, 5)
			types[indexPlace].Desig = 9
			checkCheck(t, types, 9, api.ErrIndex)
			types[offsetPlace].Offset = minOffset
			checkCheck(t, types, 9, api.ErrOffset)
			checkCheck(t, types, 10, api.ErrOffset)
			checkCheck(t, types, 0, api.ErrOffset)
		}
	}
}

// P16.2: all lists of up to four of four types, against the definition.
func TestCheckOfAllShortLists(t *testing.T) {
	kinds := []api.Type{{Desig: 2}, {Offset: minOffset + 1, Dst: true}, {Offset: minOffset}, {Offset: 7, Desig: 3}}
	lists := [][]api.Type{nil}
	for len(lists[0]) < 4 {
		var longer [][]api.Type
		for _, list := range lists {
			for _, kind := range kinds {
				longer = append(longer, append(slices.Clone(list), kind))
			}
		}
		lists = longer
		for _, list := range lists {
			want := api.OK
			if slices.Contains(list, kinds[2]) {
				want = api.ErrOffset
			} else if slices.Contains(list, kinds[3]) {
				want = api.ErrIndex
			}
			checkCheck(t, list, 3, want)
		}
	}
}

// P16.3: the type of unknown local time, whatever its index is.
func TestPlaceholder(t *testing.T) {
	for index := range 256 {
		checkPlaceholder(t, api.Type{Desig: uint8(index)}, "-00", true)
		checkPlaceholder(t, api.Type{Desig: uint8(index)}, "UTC", false)
	}
}

// P16.3: types that differ from it by one thing.
func TestNoPlaceholder(t *testing.T) {
	for _, offset := range []int32{-1, 1, 256, -256, 1 << 16, 1 << 24, 3600, minOffset, minOffset + 1, maxOffset} {
		checkPlaceholder(t, api.Type{Offset: offset}, "-00", false)
		checkPlaceholder(t, api.Type{Offset: offset, Desig: 4}, "-00", false)
	}
	checkPlaceholder(t, api.Type{Dst: true}, "-00", false)
	checkPlaceholder(t, api.Type{Dst: true, Desig: 4}, "-00", false)
	names := []string{
		"", "-", "0", "00", "-0", "000", "+00", "0-0", "00-", "--0", "-0-", "-01", "-10", "-0O", "-0\x00", "\x0000",
		"-00\x00", "-000", "-0000", "-00-", "-00:00", " -00", "-00 ", "<-00>", "\x00-00", "0-00", "--00", "EST-00", "UTC", "LMT", "\u221200",
	}
	for _, name := range names {
		checkPlaceholder(t, api.Type{}, name, false)
		checkPlaceholder(t, api.Type{Desig: 4}, name, false)
	}
}

// P16.3: types that differ from it by more than one thing.
func TestFarFromPlaceholder(t *testing.T) {
	checkPlaceholder(t, api.Type{Offset: 3600, Dst: true}, "-00", false)
	checkPlaceholder(t, api.Type{Offset: 3600}, "CET", false)
	checkPlaceholder(t, api.Type{Dst: true}, "EDT", false)
	checkPlaceholder(t, api.Type{Offset: -14400, Dst: true, Desig: 4}, "EDT", false)
}

// P16.3: every name of three of the bytes around those of the placeholder.
func TestPlaceholderNames(t *testing.T) {
	for _, a := range "+,-./01" {
		for _, b := range "+,-./01" {
			for _, c := range "+,-./01" {
				name := string([]rune{a, b, c})
				checkPlaceholder(t, api.Type{}, name, a == '-' && b == '0' && c == '0')
			}
		}
	}
}

// P16.4: decoding the encoding returns the types, whether or not they are
// valid.
func TestTypesComeBack(t *testing.T) {
	for _, offset := range []int32{minOffset, minOffset + 1, -65536, -256, -255, -1, 0, 1, 255, 256, 65536, maxOffset - 1, maxOffset} {
		for index := range 256 {
			types := []api.Type{{Offset: offset, Desig: uint8(index)}, {Offset: offset, Dst: true, Desig: uint8(255 - index)}}
			checkDecode(t, ttinfo.Encode(types), types)
		}
	}
	random := rand.New(rand.NewSource(164))
	for range 500 {
		types := randomTypes(random)
		checkDecode(t, ttinfo.Encode(types), types)
	}
}

// P16.4: encoding what was decoded returns the bytes, and exactly the bytes
// with a wrong flag are not decoded.
func TestBytesComeBack(t *testing.T) {
	random := rand.New(rand.NewSource(1640))
	for records := range 12 {
		for range 200 {
			b := make([]byte, 6*records)
			random.Read(b)
			want := true
			for i := 4; i < len(b); i += 6 {
				if random.Intn(30) > 0 {
					b[i] &= 1
				}
				want = want && b[i] <= 1
			}
			if !want {
				checkNotDecoded(t, b)
				continue
			}
			types, ok := ttinfo.Decode(b)
			if !ok {
				t.Errorf("% x are not decoded", b)
			}
			checkEncode(t, types, b)
		}
	}
}

// P16.1, P16.2, P16.4: a long list, all types of which count.
func TestLongList(t *testing.T) {
	types := make([]api.Type, 1<<17)
	for i := range types {
		types[i] = api.Type{Offset: int32(i*30000 - 1<<30), Dst: i%3 == 0, Desig: uint8(i)}
	}
	b := ttinfo.Encode(types)
	if len(b) != 6*len(types) {
		t.Fatalf("%d types are encoded in %d bytes", len(types), len(b))
	}
	if got, ok := ttinfo.Decode(b); !ok || !slices.Equal(got, types) {
		t.Errorf("%d types do not come back", len(types))
	}
	if got := ttinfo.Check(types, 256); got != api.OK {
		t.Errorf("Check of valid types = %d", got)
	}
	types[len(types)-2].Offset = minOffset
	if got := ttinfo.Check(types, 255); got != api.ErrOffset {
		t.Errorf("Check of types with a wrong offset = %d", got)
	}
	b[len(b)-2] = 2
	if got, ok := ttinfo.Decode(b); got != nil || ok {
		t.Errorf("%d types with a wrong flag are decoded: %d, %v", len(types), len(got), ok)
	}
}

// P16.1: the encoding of two lists behind each other is the one encoding
// behind the other, and so are the types of two byte strings.
func TestConcatenation(t *testing.T) {
	lists := [][]api.Type{nil, {{}}, {{Offset: -18000, Desig: 4}, {Offset: -14400, Dst: true}}, {{Offset: minOffset, Dst: true, Desig: 255}}}
	for _, first := range lists {
		for _, second := range lists {
			types := slices.Concat(first, second)
			b := slices.Concat(ttinfo.Encode(first), ttinfo.Encode(second))
			checkEncode(t, types, b)
			checkDecode(t, b, types)
		}
	}
}

// P16.5: the arguments, and what lies behind them in their arrays, stay.
func TestArgumentsStay(t *testing.T) {
	allTypes := []api.Type{{Offset: 5, Desig: 9}, {Offset: minOffset, Dst: true}, {Desig: 255}, {Offset: 77}, {Offset: 78, Dst: true, Desig: 7}}
	allBytes := bytesOf(t, "ffffba9e 00 00  ffffc7c0 01 04  00000e10 80 08  f0f1f2f3 00 05  01020304 01 05")
	types, b := slices.Clone(allTypes), bytes.Clone(allBytes)
	for n := range len(types) + 1 {
		ttinfo.Encode(types[:n])
		ttinfo.Check(types[:n], n)
		ttinfo.Check(types[n:], 8)
		ttinfo.Decode(b[:6*n])
		ttinfo.Decode(b[6*n:])
	}
	if !slices.Equal(types, allTypes) {
		t.Errorf("the types have become %v", types)
	}
	if !bytes.Equal(b, allBytes) {
		t.Errorf("the bytes have become % x", b)
	}
}

// overwrite fills a list, also behind its end as far as its array goes.
func overwrite[E any](list []E, with E) {
	list = list[:cap(list)]
	for i := range list {
		list[i] = with
	}
}

// P16.5: neither do changes of an argument reach a result, nor those of a
// result an argument or another result.
func TestNoSharedMemory(t *testing.T) {
	original := []api.Type{{Offset: -18000, Desig: 4}, {Offset: -14400, Dst: true}, {Offset: 1}}
	junk := api.Type{Offset: 99, Dst: true, Desig: 98}

	types := slices.Clone(original)
	b, other := ttinfo.Encode(types), ttinfo.Encode(types)
	encoded := bytes.Clone(b)
	overwrite(types, junk)
	if !bytes.Equal(b, encoded) {
		t.Errorf("changed types change their encoding to % x", b)
	}
	overwrite(b, 0xee)
	if types[0] != junk || types[2] != junk || !bytes.Equal(other, encoded) {
		t.Errorf("a changed encoding changes its types to %v, another encoding to % x", types, other)
	}

	source := bytes.Clone(encoded)
	decoded, _ := ttinfo.Decode(source)
	again, _ := ttinfo.Decode(source)
	overwrite(source, 0xdd)
	if !slices.Equal(decoded, original) {
		t.Errorf("changed bytes change their types to %v", decoded)
	}
	overwrite(decoded, junk)
	if !bytes.Equal(source, bytes.Repeat([]byte{0xdd}, cap(source))[:len(source)]) || !slices.Equal(again, original) {
		t.Errorf("changed types change their bytes to % x, other types to %v", source, again)
	}
}

// The chapter leaves byte slices of other lengths open; they must not panic.
func TestOtherLengthsEnd(t *testing.T) {
	b := bytesOf(t, "ffffba9e 00 00  ffffc7c0 01 04  00000e10 80 08")
	for n := range len(b) + 1 {
		for start := range n + 1 {
			ttinfo.Decode(b[start:n])
		}
	}
}
