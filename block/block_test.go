package block_test

import (
	"bytes"
	"encoding/binary"
	"encoding/hex"
	"fmt"
	"math"
	"math/rand"
	"runtime"
	"slices"
	"strings"
	"testing"

	"zoneinfo/api"
	"zoneinfo/block"
	"zoneinfo/cursor"
)

// The largest count, and the smallest and the largest numbers of 4 and 8 bytes.
const (
	most = math.MaxUint32
	min4 = math.MinInt32
	max4 = math.MaxInt32
	min8 = math.MinInt64
	max8 = math.MaxInt64
)

// kinds are the counts of a header.
var kinds = []string{"IsUt", "IsStd", "Leap", "Time", "Type", "Char"}

// count points to the count of h of a kind.
func count(h *api.Header, kind string) *uint32 {
	return map[string]*uint32{
		"IsUt": &h.IsUt, "IsStd": &h.IsStd, "Leap": &h.Leap, "Time": &h.Time, "Type": &h.Type, "Char": &h.Char,
	}[kind]
}

// full has all seven sections, all of different lengths but for the type
// indices. It is encodable, but not valid.
func full() api.Block {
	return api.Block{
		Times: []int64{min4, -2, 0, 0x01020304},
		Index: []uint8{2, 0, 255, 1},
		Types: []api.Type{{Offset: -18000, Desig: 0}, {Offset: -14400, Dst: true, Desig: 4}, {Offset: max4, Dst: true, Desig: 255}},
		Chars: []byte("EST\x00E\x80"),
		Leaps: []api.Leap{{At: 78796800, Corr: 1}, {At: -1, Corr: -2}},
		Std:   []bool{true, false, true, true, false},
		Ut:    []bool{true},
	}
}

// fullHeader is the header of full.
func fullHeader(version int) api.Header {
	return api.Header{Version: version, IsUt: 1, IsStd: 5, Leap: 2, Time: 4, Type: 3, Char: 6}
}

// fullDigits has the encodings of full by the size of times.
var fullDigits = map[int]string{
	4: "80000000 fffffffe 00000000 01020304" +
		"02 00 ff 01" +
		"ffffb9b0 00 00 ffffc7c0 01 04 7fffffff 01 ff" +
		"45 53 54 00 45 80" +
		"04b25800 00000001 ffffffff fffffffe" +
		"01 00 01 01 00" +
		"01",
	8: "ffffffff80000000 fffffffffffffffe 0000000000000000 0000000001020304" +
		"02 00 ff 01" +
		"ffffb9b0 00 00 ffffc7c0 01 04 7fffffff 01 ff" +
		"45 53 54 00 45 80" +
		"0000000004b25800 00000001 ffffffffffffffff fffffffe" +
		"01 00 01 01 00" +
		"01",
}

// alone is a block with nothing but what one count of a header counts.
type alone struct {
	kind  string
	block api.Block
	four  string // the encoding with 4-byte times
	eight string // and with 8-byte times
}

func (x alone) header() api.Header {
	h := api.Header{Version: 2}
	*count(&h, x.kind) = 2
	return h
}

// aloneBlocks has a block for each count: two records and no others.
func aloneBlocks() []alone {
	return []alone{
		{"Time", api.Block{Times: []int64{-3, 258}, Index: []uint8{7, 9}},
			"fffffffd 00000102 07 09", "fffffffffffffffd 0000000000000102 07 09"},
		{"Type", api.Block{Types: []api.Type{{Offset: 3600, Dst: true, Desig: 8}, {Offset: min4, Desig: 200}}},
			"00000e10 01 08 80000000 00 c8", "00000e10 01 08 80000000 00 c8"},
		{"Char", api.Block{Chars: []byte{0, 0xfe}}, "00 fe", "00 fe"},
		{"Leap", api.Block{Leaps: []api.Leap{{At: max4, Corr: min4}, {At: 1, Corr: 515}}},
			"7fffffff 80000000 00000001 00000203", "000000007fffffff 80000000 0000000000000001 00000203"},
		{"IsStd", api.Block{Std: []bool{false, true}}, "00 01", "00 01"},
		{"IsUt", api.Block{Ut: []bool{true, false}}, "01 00", "01 00"},
	}
}

// bytesOf reads digits of base 16, with blanks between them where they help.
func bytesOf(t *testing.T, digits string) []byte {
	t.Helper()
	b, err := hex.DecodeString(strings.ReplaceAll(digits, " ", ""))
	if err != nil {
		t.Fatal(err)
	}
	return b
}

// encoded encodes by encoding/binary, which block may not use.
func encoded(b api.Block, size int) []byte {
	var out bytes.Buffer
	put := func(v any) { _ = binary.Write(&out, binary.BigEndian, v) }
	putTime := func(v int64) {
		if size == 4 {
			put(int32(v))
		} else {
			put(v)
		}
	}
	for _, v := range b.Times {
		putTime(v)
	}
	out.Write(b.Index)
	for _, v := range b.Types {
		put(v)
	}
	out.Write(b.Chars)
	for _, v := range b.Leaps {
		putTime(v.At)
		put(v.Corr)
	}
	put(b.Std)
	put(b.Ut)
	return out.Bytes()
}

// lengthOf is the number of bytes that a data block takes.
func lengthOf(h api.Header, size int) int {
	return int(h.Time)*(size+1) + int(h.Type)*6 + int(h.Char) + int(h.Leap)*(size+4) + int(h.IsStd) + int(h.IsUt)
}

// flagPlaces has the offsets of all flag bytes in a data block: those of the
// types, and behind them those of the indicators.
func flagPlaces(h api.Header, size int) []int {
	var places []int
	types := int(h.Time) * (size + 1)
	for i := range int(h.Type) {
		places = append(places, types+6*i+4)
	}
	for end := lengthOf(h, size); len(places) < int(h.Type+h.IsStd+h.IsUt); {
		places = append(places, end-int(h.Type+h.IsStd+h.IsUt)+len(places))
	}
	return places
}

// text tells all elements of a block, and of nil and empty lists the same.
func text(b api.Block) string { return fmt.Sprint(b) }

// clone has lists of its own.
func clone(b api.Block) api.Block {
	return api.Block{
		Times: slices.Clone(b.Times), Index: slices.Clone(b.Index), Types: slices.Clone(b.Types), Chars: slices.Clone(b.Chars),
		Leaps: slices.Clone(b.Leaps), Std: slices.Clone(b.Std), Ut: slices.Clone(b.Ut),
	}
}

// randomBlock makes an encodable block with up to 8 elements a list.
func randomBlock(random *rand.Rand, size int) api.Block {
	var b api.Block
	time := func() int64 { return int64(random.Uint64()) >> (64 - 8*size) }
	for range random.Intn(9) {
		b.Times, b.Index = append(b.Times, time()), append(b.Index, uint8(random.Uint32()))
	}
	for range random.Intn(9) {
		b.Types = append(b.Types, api.Type{Offset: int32(random.Uint32()), Dst: random.Intn(2) == 1, Desig: uint8(random.Uint32())})
	}
	for range random.Intn(9) {
		b.Chars = append(b.Chars, byte(random.Uint32()))
	}
	for range random.Intn(9) {
		b.Leaps = append(b.Leaps, api.Leap{At: time(), Corr: int32(random.Uint32())})
	}
	for range random.Intn(9) {
		b.Std = append(b.Std, random.Intn(2) == 1)
	}
	for range random.Intn(9) {
		b.Ut = append(b.Ut, random.Intn(2) == 1)
	}
	return b
}

// headers has all headers whose counts are 0, 1 or 2.
func headers() []api.Header {
	list := []api.Header{{Version: 3}}
	for _, kind := range kinds {
		var next []api.Header
		for _, h := range list {
			for n := range uint32(3) {
				*count(&h, kind) = n
				next = append(next, h)
			}
		}
		list = next
	}
	return list
}

// junk makes bytes in which all flags of the header's data block are flags.
func junk(random *rand.Rand, h api.Header, size int) []byte {
	b := make([]byte, lengthOf(h, size))
	random.Read(b)
	for _, place := range flagPlaces(h, size) {
		b[place] &= 1
	}
	return b
}

func checkHeader(t *testing.T, b api.Block, version int, want api.Header) {
	t.Helper()
	if got := block.Header(b, version); got != want {
		t.Errorf("Header(%v, %d) = %+v, want %+v", b, version, got, want)
	}
}

func checkEncode(t *testing.T, b api.Block, size int, want []byte) {
	t.Helper()
	if got := block.Encode(b, size); !bytes.Equal(got, want) {
		t.Errorf("Encode(%v, %d) = % x, want % x", b, size, got, want)
	}
}

// checkEqual checks Equal in both directions.
func checkEqual(t *testing.T, a, b api.Block, want bool) {
	t.Helper()
	if got := block.Equal(a, b); got != want {
		t.Errorf("Equal(%v, %v) = %v, want %v", a, b, got, want)
	}
	if got := block.Equal(b, a); got != want {
		t.Errorf("Equal(%v, %v) = %v, want %v", b, a, got, want)
	}
}

// checkDecode holds Data against each other by address, because the cursors of
// one input share it.
func checkDecode(t *testing.T, c api.Cursor, h api.Header, size, at int, want api.Block, after api.Cursor) {
	t.Helper()
	got, c2 := block.Decode(c, h, size, at)
	if text(got) != text(want) {
		t.Errorf("Decode(%+v, %+v, %d, %d) = %v, want %v", c, h, size, at, got, want)
	}
	shared := len(c2.Data) == len(after.Data) && (len(c2.Data) == 0 || &c2.Data[0] == &after.Data[0])
	if !shared || c2.Pos != after.Pos || c2.Err != after.Err || c2.At != after.At {
		t.Errorf("Decode(%+v, %+v, %d, %d): error %d at %d, position %d, want error %d at %d, position %d (Data shared: %v)",
			c, h, size, at, c2.Err, c2.At, c2.Pos, after.Err, after.At, after.Pos, shared)
	}
}

// checkTruncated checks that the data block does not fit in what remains.
func checkTruncated(t *testing.T, c api.Cursor, h api.Header, size, at int) {
	t.Helper()
	checkDecode(t, c, h, size, at, api.Block{}, api.Cursor{Data: c.Data, Pos: c.Pos, Err: api.ErrTruncated, At: len(c.Data)})
}

// checkWrongFlag checks that the data block fits, but has a wrong flag.
func checkWrongFlag(t *testing.T, c api.Cursor, h api.Header, size, at int) {
	t.Helper()
	checkDecode(t, c, h, size, at, api.Block{}, api.Cursor{Data: c.Data, Pos: c.Pos + lengthOf(h, size), Err: api.ErrBool, At: at})
}

// checkBoth checks that digits encode b, in both directions: alone, followed
// by further bytes, and inside the input.
func checkBoth(t *testing.T, b api.Block, h api.Header, size int, digits string) {
	t.Helper()
	code := bytesOf(t, digits)
	checkEncode(t, b, size, code)
	for _, before := range []string{"", "\x02", "TZif2 and more"} {
		for _, behind := range []string{"", "\x02", "\nEST5\n"} {
			input := []byte(before + string(code) + behind)
			c := api.Cursor{Data: input, Pos: len(before)}
			checkDecode(t, c, h, size, 3, b, api.Cursor{Data: input, Pos: len(before) + len(code)})
		}
	}
}

// P19.1, P19.2: the chapter's example.
func TestExample(t *testing.T) {
	b := api.Block{Types: []api.Type{{}}, Chars: []byte{0}}
	h := api.Header{Version: 1, Type: 1, Char: 1}
	checkHeader(t, b, 1, h)
	for _, size := range []int{4, 8} {
		checkBoth(t, b, h, size, "00 00 00 00 00 00 00")
	}
}

// P19.1: the counts of blocks of which no two lists are of one length, those
// that are not encodable among them, because Time counts the times alone.
func TestHeader(t *testing.T) {
	for _, version := range []int{1, 2, 3, 4} {
		checkHeader(t, api.Block{}, version, api.Header{Version: version})
		checkHeader(t, full(), version, fullHeader(version))
		for _, x := range aloneBlocks() {
			want := x.header()
			want.Version = version
			checkHeader(t, x.block, version, want)
		}
		checkHeader(t, api.Block{
			Times: make([]int64, 3), Index: make([]uint8, 7), Types: make([]api.Type, 300), Chars: make([]byte, 2),
			Leaps: make([]api.Leap, 11), Std: make([]bool, 1), Ut: make([]bool, 5),
		}, version, api.Header{Version: version, IsUt: 5, IsStd: 1, Leap: 11, Time: 3, Type: 300, Char: 2})
	}
	checkHeader(t, api.Block{Index: make([]uint8, 3)}, 2, api.Header{Version: 2})
}

// P19.1: counts of more than 8 and 16 bits, in each list.
func TestHeaderOfLongLists(t *testing.T) {
	for _, n := range []int{255, 256, 65535, 65536, 1<<20 + 2} {
		for i, want := range []api.Header{{Time: uint32(n)}, {Type: uint32(n)}, {Char: uint32(n)}, {Leap: uint32(n)}, {IsStd: uint32(n)}, {IsUt: uint32(n)}} {
			var b api.Block
			switch i {
			case 0:
				b.Times = make([]int64, n)
			case 1:
				b.Types = make([]api.Type, n)
			case 2:
				b.Chars = make([]byte, n)
			case 3:
				b.Leaps = make([]api.Leap, n)
			case 4:
				b.Std = make([]bool, n)
			case 5:
				b.Ut = make([]bool, n)
			}
			if got := block.Header(b, 0); got != want {
				t.Errorf("the header is %+v, want %+v", got, want)
			}
		}
	}
}

// P19.1, P19.2: no records are no bytes, wherever the cursor stands.
func TestNoRecords(t *testing.T) {
	empty := api.Block{Times: []int64{}, Index: []uint8{}, Types: []api.Type{}, Chars: []byte{}, Leaps: []api.Leap{}, Std: []bool{}, Ut: []bool{}}
	for _, size := range []int{4, 8} {
		for _, b := range []api.Block{{}, empty} {
			checkHeader(t, b, 4, api.Header{Version: 4})
			checkBoth(t, b, api.Header{Version: 4}, size, "")
		}
		for _, c := range []api.Cursor{cursor.New(nil), cursor.New([]byte{}), {Data: []byte{2, 2}, Pos: 1}, {Data: []byte{2, 2}, Pos: 2}} {
			checkDecode(t, c, api.Header{}, size, 9, api.Block{}, c)
		}
	}
}

// P19.1, P19.2, P19.3: one kind of records alone, byte by byte.
func TestOneKindAlone(t *testing.T) {
	for _, x := range aloneBlocks() {
		checkBoth(t, x.block, x.header(), 4, x.four)
		checkBoth(t, x.block, x.header(), 8, x.eight)
	}
}

// P19.1, P19.2, P19.3: all seven sections, byte by byte.
func TestAllSections(t *testing.T) {
	for size, digits := range fullDigits {
		for version := 1; version <= 4; version++ {
			checkBoth(t, full(), fullHeader(version), size, digits)
		}
	}
}

// P19.1, P19.2, P19.3: times that fit in 8 bytes only, and the limits of both
// sizes.
func TestLimitsOfTimes(t *testing.T) {
	h := api.Header{Time: 2, Leap: 2}
	for size, limits := range map[int][2]int64{4: {min4, max4}, 8: {min8, max8}} {
		b := api.Block{
			Times: []int64{limits[0], limits[1]}, Index: []uint8{0, 0},
			Leaps: []api.Leap{{At: limits[1], Corr: max4}, {At: limits[0], Corr: min4}},
		}
		checkBoth(t, b, h, size, map[int]string{
			4: "80000000 7fffffff 00 00 7fffffff 7fffffff 80000000 80000000",
			8: "8000000000000000 7fffffffffffffff 00 00 7fffffffffffffff 7fffffff 8000000000000000 80000000",
		}[size])
	}
}

// P19.2: the header's version does not matter, nor whether its counts are
// consistent, nor where an error would be reported.
func TestDecodeAsksForNothingElse(t *testing.T) {
	for size, digits := range fullDigits {
		input := bytesOf(t, digits)
		for _, version := range []int{min8, -1, 0, 5, max8} {
			for _, at := range []int{min8, -1, 0, 44, len(input), max8} {
				checkDecode(t, cursor.New(input), fullHeader(version), size, at, full(), api.Cursor{Data: input, Pos: len(input)})
			}
		}
	}
}

// differences has ways to change one field alone of a full block, or more of
// them so that the encoding stays.
func differences() map[string]func(b *api.Block) {
	list := map[string]func(b *api.Block){
		"no Times": func(b *api.Block) { b.Times = nil }, "no Index": func(b *api.Block) { b.Index = nil },
		"no Types": func(b *api.Block) { b.Types = nil }, "no Chars": func(b *api.Block) { b.Chars = nil },
		"no Leaps": func(b *api.Block) { b.Leaps = nil }, "no Std": func(b *api.Block) { b.Std = nil }, "no Ut": func(b *api.Block) { b.Ut = nil },

		"longer Times": func(b *api.Block) { b.Times = append(b.Times, 0) }, "shorter Times": func(b *api.Block) { b.Times = b.Times[:3] },
		"longer Index": func(b *api.Block) { b.Index = append(b.Index, 0) }, "shorter Index": func(b *api.Block) { b.Index = b.Index[:3] },
		"longer Types": func(b *api.Block) { b.Types = append(b.Types, api.Type{}) }, "shorter Types": func(b *api.Block) { b.Types = b.Types[:2] },
		"longer Chars": func(b *api.Block) { b.Chars = append(b.Chars, 0) }, "shorter Chars": func(b *api.Block) { b.Chars = b.Chars[:5] },
		"longer Leaps": func(b *api.Block) { b.Leaps = append(b.Leaps, api.Leap{}) }, "shorter Leaps": func(b *api.Block) { b.Leaps = b.Leaps[:1] },
		"longer Std": func(b *api.Block) { b.Std = append(b.Std, false) }, "shorter Std": func(b *api.Block) { b.Std = b.Std[:4] },
		"longer Ut": func(b *api.Block) { b.Ut = append(b.Ut, false) },

		"Times without the first": func(b *api.Block) { b.Times = b.Times[1:] }, "Std without the first": func(b *api.Block) { b.Std = b.Std[1:] },
		"an indicator moved": func(b *api.Block) { b.Std, b.Ut = b.Std[:4], []bool{false, true} },
		"times turned round": func(b *api.Block) { slices.Reverse(b.Times) },
		"bytes changed over": func(b *api.Block) { b.Index, b.Chars = b.Chars, b.Index },
		"flags changed over": func(b *api.Block) { b.Std, b.Ut = b.Ut, b.Std },
	}
	for i := range 4 {
		list[fmt.Sprint("Times ", i)] = func(b *api.Block) { b.Times[i] ^= 1 << 40 }
		list[fmt.Sprint("Index ", i)] = func(b *api.Block) { b.Index[i] ^= 128 }
	}
	for i := range 3 {
		list[fmt.Sprint("Types.Offset ", i)] = func(b *api.Block) { b.Types[i].Offset++ }
		list[fmt.Sprint("Types.Dst ", i)] = func(b *api.Block) { b.Types[i].Dst = !b.Types[i].Dst }
		list[fmt.Sprint("Types.Desig ", i)] = func(b *api.Block) { b.Types[i].Desig ^= 1 }
	}
	for i := range 6 {
		list[fmt.Sprint("Chars ", i)] = func(b *api.Block) { b.Chars[i] ^= 32 }
	}
	for i := range 2 {
		list[fmt.Sprint("Leaps.At ", i)] = func(b *api.Block) { b.Leaps[i].At ^= 1 << 32 }
		list[fmt.Sprint("Leaps.Corr ", i)] = func(b *api.Block) { b.Leaps[i].Corr = -b.Leaps[i].Corr }
	}
	for i := range 5 {
		list[fmt.Sprint("Std ", i)] = func(b *api.Block) { b.Std[i] = !b.Std[i] }
	}
	list["Ut 0"] = func(b *api.Block) { b.Ut[0] = false }
	return list
}

// P19.1: blocks that differ in one element, or in the length, of one field.
func TestEqualOfDifferentBlocks(t *testing.T) {
	checkEqual(t, full(), full(), true)
	for name, change := range differences() {
		changed, again := full(), full()
		change(&changed)
		change(&again)
		if text(changed) == text(full()) {
			t.Errorf("%s: nothing is changed", name)
		}
		checkEqual(t, full(), changed, false)
		checkEqual(t, api.Block{}, changed, false)
		checkEqual(t, changed, again, true)
	}
}

// P19.1: one field alone, against the zero Block and the other fields alone.
func TestEqualOfSingleFields(t *testing.T) {
	singles := []api.Block{
		{}, {Times: make([]int64, 1)}, {Index: make([]uint8, 1)}, {Types: make([]api.Type, 1)}, {Chars: make([]byte, 1)},
		{Leaps: make([]api.Leap, 1)}, {Std: make([]bool, 1)}, {Ut: make([]bool, 1)},
	}
	for i, a := range singles {
		for j, b := range singles {
			checkEqual(t, a, clone(b), i == j)
		}
	}
}

// P19.1: nil and empty lists are the same, in each field, and what lies behind
// the end of a list does not count.
func TestEqualOfEmptyLists(t *testing.T) {
	for i, empty := range []api.Block{
		{Times: []int64{}}, {Index: []uint8{}}, {Types: []api.Type{}}, {Chars: []byte{}}, {Leaps: []api.Leap{}}, {Std: []bool{}}, {Ut: []bool{}},
		{Times: []int64{1}[:0]}, {Index: []uint8{1}[:0]}, {Types: []api.Type{{Offset: 1}}[:0]}, {Chars: []byte{1}[:0]},
		{Leaps: []api.Leap{{At: 1}}[:0]}, {Std: []bool{true}[:0]}, {Ut: []bool{true}[:0]},
		{Times: []int64{}, Index: []uint8{}, Types: []api.Type{}, Chars: []byte{}, Leaps: []api.Leap{}, Std: []bool{}, Ut: []bool{}},
	} {
		checkEqual(t, empty, api.Block{}, true)
		checkEqual(t, empty, empty, true)
		checkEqual(t, empty, full(), false)
		if !block.Equal(empty, clone(empty)) {
			t.Errorf("empty block %d is not equal to its copy", i)
		}
	}
	withRoom := clone(full())
	withRoom.Times = append(withRoom.Times, 5)[:4]
	withRoom.Chars = append(withRoom.Chars, 5)[:6]
	withRoom.Ut = append(withRoom.Ut, true)[:1]
	checkEqual(t, full(), withRoom, true)
}

// P19.1: random blocks, of which only those with the same text are equal.
func TestEqualOfRandomBlocks(t *testing.T) {
	random := rand.New(rand.NewSource(191))
	small := func() api.Block {
		b := api.Block{Times: make([]int64, random.Intn(2)), Chars: make([]byte, random.Intn(2)), Std: make([]bool, random.Intn(2)), Ut: make([]bool, random.Intn(2))}
		for i := range b.Times {
			b.Times[i] = int64(random.Intn(2))
		}
		for i := range b.Std {
			b.Std[i] = random.Intn(2) == 1
		}
		return b
	}
	for range 2000 {
		a, b := small(), small()
		checkEqual(t, a, b, text(a) == text(b))
		c := randomBlock(random, 8)
		checkEqual(t, c, clone(c), true)
	}
}

// P19.2: a cursor that has an error stays as it is, whatever the error is,
// what remains and what is there.
func TestCursorWithAnError(t *testing.T) {
	good := bytesOf(t, fullDigits[4])
	wrong := bytes.Repeat([]byte{2}, len(good))
	for why := api.Errno(-1); why <= api.MaxErr+1; why++ {
		if why == api.OK {
			continue
		}
		for _, data := range [][]byte{nil, good, wrong, good[:10]} {
			for _, pos := range []int{0, len(data) / 2, len(data)} {
				for _, at := range []int{0, 5, len(data), -7} {
					c := api.Cursor{Data: data, Pos: pos, Err: why, At: at}
					for _, size := range []int{4, 8} {
						for _, h := range []api.Header{{}, fullHeader(1), {Type: 1}, {Time: most, Type: most}} {
							checkDecode(t, c, h, size, 3, api.Block{}, c)
						}
					}
				}
			}
		}
	}
}

// P19.2: every truncation of an encoding, at the beginning and inside.
func TestEveryTruncation(t *testing.T) {
	for size, digits := range fullDigits {
		for _, before := range []string{"", "\x01", "some bytes"} {
			input := append([]byte(before), bytesOf(t, digits)...)
			for end := len(before); end < len(input); end++ {
				c := api.Cursor{Data: input[:end], Pos: len(before)}
				checkTruncated(t, c, fullHeader(2), size, 1)
				c.Data = bytes.Clone(input[:end])
				checkTruncated(t, c, fullHeader(2), size, 1)
			}
		}
	}
}

// P19.2: one byte is missing for each kind of record, also where there would
// be enough for the other size of times.
func TestOneByteMissing(t *testing.T) {
	for _, x := range aloneBlocks() {
		for size, digits := range map[int]string{4: x.four, 8: x.eight} {
			input := bytesOf(t, digits)
			checkTruncated(t, cursor.New(input[:len(input)-1]), x.header(), size, 0)
			checkTruncated(t, api.Cursor{Data: input, Pos: 1}, x.header(), size, 0)
			checkTruncated(t, api.Cursor{Data: input, Pos: len(input)}, x.header(), size, 0)
			h := x.header()
			*count(&h, x.kind) = 3
			checkTruncated(t, cursor.New(input), h, size, 0)
		}
	}
	checkTruncated(t, cursor.New(bytesOf(t, fullDigits[4])), fullHeader(2), 8, 0)
}

// allocated tells how many bytes of memory f takes.
func allocated(f func()) uint64 {
	var before, after runtime.MemStats
	runtime.ReadMemStats(&before)
	f()
	runtime.ReadMemStats(&after)
	return after.TotalAlloc - before.TotalAlloc
}

// P19.2: counts that are far greater than the input take no memory. Some of
// them would fit if lengths wrapped around in 32 bits.
func TestHugeCounts(t *testing.T) {
	counts := []uint32{1000, 1 << 16, 1 << 28, 1 << 29, 1 << 30, 1<<31 - 1, 1 << 31, 1<<31 + 1, 0xaaaaaaab, 0x2aaaaaab, 0x33333334, 0xcccccccd, 0x1c71c71d, 0x15555556, most - 1, most}
	inputs := [][]byte{nil, {0}, make([]byte, 100), bytes.Repeat([]byte{2}, 999)}
	var list []api.Header
	for _, n := range counts {
		for _, kind := range kinds {
			var h api.Header
			*count(&h, kind) = n
			list = append(list, h)
			h = fullHeader(2)
			*count(&h, kind) = n
			list = append(list, h)
		}
		list = append(list, api.Header{IsUt: n, IsStd: n, Leap: n, Time: n, Type: n, Char: n})
	}
	for _, h := range list {
		for _, size := range []int{4, 8} {
			for _, input := range inputs {
				c := api.Cursor{Data: input, Pos: len(input) / 3}
				if taken := allocated(func() { block.Decode(c, h, size, 0) }); taken > 1<<16 {
					t.Fatalf("%+v in %d bytes takes %d bytes of memory", h, len(input), taken)
				}
				checkTruncated(t, c, h, size, 0)
			}
		}
	}
}

// P19.2: a byte that is no flag, at each place of one, by literal offsets.
func TestWrongFlagsOfFull(t *testing.T) {
	for size, places := range map[int][]int{
		4: {24, 30, 36, 60, 61, 62, 63, 64, 65},
		8: {40, 46, 52, 84, 85, 86, 87, 88, 89},
	} {
		if got := flagPlaces(fullHeader(2), size); !slices.Equal(got, places) {
			t.Fatalf("flags are expected at %v, want %v", got, places)
		}
		for _, place := range places {
			for value := 2; value < 256; value++ {
				input := bytesOf(t, fullDigits[size])
				input[place] = byte(value)
				checkWrongFlag(t, cursor.New(input), fullHeader(2), size, 44)
			}
		}
	}
}

// P19.2: a wrong flag of each kind, at the first and at the last place, of
// lists of several lengths, alone and inside the input.
func TestWrongFlags(t *testing.T) {
	random := rand.New(rand.NewSource(192))
	for _, n := range []uint32{1, 2, 3, 20} {
		for _, h := range []api.Header{{Type: n}, {IsStd: n}, {IsUt: n}, {IsUt: n, IsStd: n, Leap: 2, Time: 3, Type: n, Char: 5}, {Time: n, IsUt: 2 * n}, {Leap: n, IsStd: n}, {Char: n, Type: 2, IsUt: n}} {
			for _, size := range []int{4, 8} {
				for _, place := range flagPlaces(h, size) {
					for _, value := range []byte{2, 127, 128, 255} {
						code := junk(random, h, size)
						code[place] = value
						checkWrongFlag(t, cursor.New(code), h, size, 0)
						input := slices.Concat([]byte{1, 0}, code, []byte{1, 0, 3})
						for _, at := range []int{0, 1, 2, 51, len(input)} {
							checkWrongFlag(t, api.Cursor{Data: input, Pos: 2}, h, size, at)
						}
					}
				}
			}
		}
	}
}

// P19.2: several wrong flags at once.
func TestSeveralWrongFlags(t *testing.T) {
	for size, digits := range fullDigits {
		places := flagPlaces(fullHeader(2), size)
		for set := 1; set < 1<<len(places); set++ {
			input := bytesOf(t, digits)
			for i, place := range places {
				if set>>i&1 == 1 {
					input[place] = byte(2 + i)
				}
			}
			checkWrongFlag(t, cursor.New(input), fullHeader(3), size, 99)
		}
	}
}

// P19.2: bytes other than flags may be what they like, also right before and
// right behind flags.
func TestOtherBytesAreNoFlags(t *testing.T) {
	h := fullHeader(4)
	for _, size := range []int{4, 8} {
		places := flagPlaces(h, size)
		for _, value := range []byte{0, 1, 2, 127, 128, 255} {
			code := bytes.Repeat([]byte{value}, lengthOf(h, size))
			for _, place := range places {
				code[place] = 1
			}
			input := slices.Concat([]byte{value, value}, code, []byte{value, value})
			got, c := block.Decode(api.Cursor{Data: input, Pos: 2}, h, size, 0)
			if c.Err != api.OK || c.At != 0 || c.Pos != 2+len(code) || !bytes.Equal(encoded(got, size), code) {
				t.Errorf("% x: error %d at %d, position %d, %v", code, c.Err, c.At, c.Pos, got)
			}
		}
	}
}

// P19.2: a block that is too short is truncated, even if it has wrong flags.
func TestTruncatedBeforeWrongFlag(t *testing.T) {
	for size, digits := range fullDigits {
		places := flagPlaces(fullHeader(2), size)
		for _, place := range places[:len(places)-1] {
			input := bytesOf(t, digits)
			input[place] = 2
			for end := place + 1; end < len(input); end++ {
				checkTruncated(t, cursor.New(input[:end]), fullHeader(2), size, 7)
				checkTruncated(t, api.Cursor{Data: input, Pos: len(input) - end}, fullHeader(2), size, 7)
			}
		}
	}
	checkTruncated(t, cursor.New(bytes.Repeat([]byte{2}, 1000)), api.Header{IsStd: 1000, IsUt: 1}, 4, 0)
}

// P19.2, P19.3: all headers with counts up to 2, in inputs of all lengths that
// just fit or do not, with right and wrong flags.
func TestAllSmallHeaders(t *testing.T) {
	random := rand.New(rand.NewSource(193))
	for _, h := range headers() {
		for _, size := range []int{4, 8} {
			code := junk(random, h, size)
			input := append(bytes.Clone(code), 2, 2)
			for end := range input {
				c := cursor.New(input[:end])
				if end < len(code) {
					checkTruncated(t, c, h, size, 0)
					continue
				}
				got, after := block.Decode(c, h, size, 0)
				if after.Err != api.OK || after.Pos != len(code) || !bytes.Equal(encoded(got, size), code) {
					t.Fatalf("%+v, %d: % x: error %d, position %d, %v", h, size, code, after.Err, after.Pos, got)
				}
				checkHeader(t, got, h.Version, h)
			}
			for _, place := range flagPlaces(h, size) {
				wrong := bytes.Clone(input)
				wrong[place] |= 2
				checkWrongFlag(t, cursor.New(wrong), h, size, 0)
			}
		}
	}
}

// P19.1, P19.3: decoding the encoding of random blocks returns them.
func TestBlocksComeBack(t *testing.T) {
	random := rand.New(rand.NewSource(19))
	for range 2000 {
		for _, size := range []int{4, 8} {
			b := randomBlock(random, size)
			code := block.Encode(b, size)
			if !bytes.Equal(code, encoded(b, size)) {
				t.Fatalf("Encode(%v, %d) = % x, want % x", b, size, code, encoded(b, size))
			}
			before := make([]byte, random.Intn(50))
			input := slices.Concat(before, code, make([]byte, random.Intn(3)))
			got, c := block.Decode(api.Cursor{Data: input, Pos: len(before)}, block.Header(b, 2), size, 0)
			if !block.Equal(got, b) || text(got) != text(b) || c.Err != api.OK || c.At != 0 || c.Pos != len(before)+len(code) {
				t.Fatalf("%v comes back as %v with error %d at %d, position %d", b, got, c.Err, c.At, c.Pos)
			}
		}
	}
}

// P19.3: encoding what was decoded returns the bytes that were read.
func TestBytesComeBack(t *testing.T) {
	random := rand.New(rand.NewSource(194))
	for range 2000 {
		h := api.Header{
			Version: 2, IsUt: uint32(random.Intn(9)), IsStd: uint32(random.Intn(9)), Leap: uint32(random.Intn(9)),
			Time: uint32(random.Intn(9)), Type: uint32(random.Intn(9)), Char: uint32(random.Intn(9)),
		}
		for _, size := range []int{4, 8} {
			code := junk(random, h, size)
			got, c := block.Decode(cursor.New(code), h, size, 0)
			if c.Err != api.OK || c.Pos != len(code) {
				t.Fatalf("%+v, %d: % x: error %d, position %d", h, size, code, c.Err, c.Pos)
			}
			checkEncode(t, got, size, code)
			checkHeader(t, got, 2, h)
		}
	}
}

// P19.2: blocks one behind the other are read one after the other, up to the
// first error, which stays.
func TestBlocksInARow(t *testing.T) {
	input := slices.Concat(bytesOf(t, fullDigits[4]), bytesOf(t, fullDigits[8]), []byte{0, 1})
	c := cursor.New(input)
	var b api.Block
	for i, size := range []int{4, 8} {
		if b, c = block.Decode(c, fullHeader(2), size, 0); text(b) != text(full()) || c.Err != api.OK {
			t.Errorf("block %d is %v, error %d", i, b, c.Err)
		}
	}
	flags := api.Header{IsStd: 1, IsUt: 1}
	checkDecode(t, c, flags, 4, 0, api.Block{Std: []bool{false}, Ut: []bool{true}}, api.Cursor{Data: input, Pos: len(input)})
	_, c = block.Decode(c, fullHeader(2), 4, 0)
	checkDecode(t, c, api.Header{}, 4, 0, api.Block{}, api.Cursor{Data: input, Pos: len(input) - 2, Err: api.ErrTruncated, At: len(input)})
}

// P19.1, P19.3: long lists, all elements of which count.
func TestLongLists(t *testing.T) {
	const n = 100000
	var b api.Block
	for i := range n {
		b.Times = append(b.Times, int64(i)*7-3)
		b.Index = append(b.Index, uint8(i*3))
		b.Types = append(b.Types, api.Type{Offset: int32(i), Dst: i%3 == 0, Desig: uint8(i)})
		b.Chars = append(b.Chars, byte(i%251))
		b.Leaps = append(b.Leaps, api.Leap{At: int64(-i), Corr: int32(i)})
		b.Std, b.Ut = append(b.Std, i%5 == 0), append(b.Ut, i%7 == 0)
	}
	h := api.Header{Version: 2, IsUt: n, IsStd: n, Leap: n, Time: n, Type: n, Char: n}
	if got := block.Header(b, 2); got != h {
		t.Errorf("the header is %+v", got)
	}
	for _, size := range []int{4, 8} {
		code := block.Encode(b, size)
		if !bytes.Equal(code, encoded(b, size)) {
			t.Errorf("%d bytes of the encoding are wrong", len(code))
		}
		got, c := block.Decode(cursor.New(code), h, size, 0)
		if !block.Equal(got, b) || text(got) != text(b) || c.Err != api.OK || c.Pos != len(code) {
			t.Errorf("long lists do not come back: error %d, position %d", c.Err, c.Pos)
		}
		code[len(code)-1] = 3
		if got, c := block.Decode(cursor.New(code), h, size, 5); text(got) != text(api.Block{}) || c.Err != api.ErrBool || c.At != 5 || c.Pos != len(code) {
			t.Errorf("the last flag is wrong: error %d at %d, position %d", c.Err, c.At, c.Pos)
		}
	}
}

// withRoom has lists with room behind their ends, and something in it.
func withRoom(b api.Block) api.Block {
	return api.Block{
		Times: append(slices.Clone(b.Times), 91, 92, 93)[:len(b.Times)],
		Index: append(slices.Clone(b.Index), 91, 92, 93)[:len(b.Index)],
		Types: append(slices.Clone(b.Types), api.Type{Offset: 91}, api.Type{Desig: 92})[:len(b.Types)],
		Chars: append(slices.Clone(b.Chars), 91, 92, 93)[:len(b.Chars)],
		Leaps: append(slices.Clone(b.Leaps), api.Leap{At: 91}, api.Leap{Corr: 92})[:len(b.Leaps)],
		Std:   append(slices.Clone(b.Std), true, false, true)[:len(b.Std)],
		Ut:    append(slices.Clone(b.Ut), true, false, true)[:len(b.Ut)],
	}
}

// allOf has the lists of b as far as their arrays go.
func allOf(b api.Block) api.Block {
	return api.Block{
		Times: b.Times[:cap(b.Times)], Index: b.Index[:cap(b.Index)], Types: b.Types[:cap(b.Types)], Chars: b.Chars[:cap(b.Chars)],
		Leaps: b.Leaps[:cap(b.Leaps)], Std: b.Std[:cap(b.Std)], Ut: b.Ut[:cap(b.Ut)],
	}
}

// P19.4: the arguments, and what lies behind them in their arrays, stay.
func TestArgumentsStay(t *testing.T) {
	a, b := withRoom(full()), withRoom(full())
	before := text(allOf(a))
	for _, size := range []int{4, 8} {
		block.Encode(a, size)
	}
	block.Header(a, 2)
	block.Equal(a, b)
	block.Equal(b, a)
	block.Equal(a, full())
	if text(allOf(a)) != before || text(allOf(b)) != before {
		t.Errorf("the blocks have become %v, %v, were %s", allOf(a), allOf(b), before)
	}
	for size, digits := range fullDigits {
		input := append(bytesOf(t, digits), 7, 8, 9)
		wrong := bytes.Clone(input)
		wrong[len(wrong)-4] = 2
		for _, data := range [][]byte{input, wrong} {
			original := bytes.Clone(data)
			for end := range len(data) + 1 {
				block.Decode(cursor.New(data[:end]), fullHeader(2), size, 0)
			}
			if !bytes.Equal(data, original) {
				t.Errorf("the input has become % x, was % x", data, original)
			}
		}
	}
}

// overwrite fills a list, also behind its end as far as its array goes.
func overwrite[E any](list []E, with E) {
	list = list[:cap(list)]
	for i := range list {
		list[i] = with
	}
}

// overwriters fill one list of a block each, with what would change each list
// of full.
func overwriters() []func(b *api.Block) {
	return []func(b *api.Block){
		func(b *api.Block) { overwrite(b.Times, 77) },
		func(b *api.Block) { overwrite(b.Index, 77) },
		func(b *api.Block) { overwrite(b.Types, api.Type{Offset: 77, Dst: true, Desig: 77}) },
		func(b *api.Block) { overwrite(b.Chars, 77) },
		func(b *api.Block) { overwrite(b.Leaps, api.Leap{At: 77, Corr: 77}) },
		func(b *api.Block) { overwrite(b.Std, false) },
		func(b *api.Block) { overwrite(b.Ut, false) },
	}
}

// P19.4: a changed input changes no decoded block, and neither do changes of a
// decoded block, nor what is appended to its lists, reach the input or another
// block.
func TestDecodedBlocksShareNoMemory(t *testing.T) {
	for size, digits := range fullDigits {
		code := bytesOf(t, digits)
		input := append(make([]byte, 0, 500), slices.Concat([]byte{1, 2, 3}, code, []byte{4, 5, 6})...)
		original := bytes.Clone(input[:cap(input)])
		c := api.Cursor{Data: input, Pos: 3}
		first, _ := block.Decode(c, fullHeader(2), size, 0)
		second, _ := block.Decode(c, fullHeader(2), size, 0)
		_ = append(first.Index, 88, 88, 88)
		_ = append(first.Chars, 88, 88, 88)
		for _, overwriteOne := range overwriters() {
			overwriteOne(&first)
		}
		if !bytes.Equal(input[:cap(input)], original) || text(second) != text(full()) {
			t.Errorf("a changed block changes its input to % x, another block to %v", input[:cap(input)], second)
		}
		overwrite(input, 0xdd)
		if text(second) != text(full()) {
			t.Errorf("a changed input changes its block to %v", second)
		}
	}
}

// P19.4: no two lists of a decoded block share memory, also not behind their
// ends.
func TestDecodedListsShareNoMemory(t *testing.T) {
	for size, digits := range fullDigits {
		for i, overwriteOne := range overwriters() {
			got, _ := block.Decode(cursor.New(bytesOf(t, digits)), fullHeader(2), size, 0)
			want := full()
			overwriteOne(&want)
			overwriteOne(&got)
			if text(got) != text(want) {
				t.Errorf("changing list %d makes %v, want %v", i, got, want)
			}
		}
	}
}

// P19.4: neither do changes of a block reach its encoding, nor those of an
// encoding its block or another encoding. Blocks with bytes alone have
// encodings that are those bytes.
func TestEncodingsShareNoMemory(t *testing.T) {
	blocks := []api.Block{full(), {Chars: []byte("EST\x00")}}
	for _, x := range aloneBlocks() {
		blocks = append(blocks, x.block)
	}
	for _, original := range blocks {
		for _, size := range []int{4, 8} {
			b := withRoom(original)
			before := text(allOf(b))
			first, second := block.Encode(b, size), block.Encode(b, size)
			overwrite(first, 0xee)
			if text(allOf(b)) != before || !bytes.Equal(second, encoded(original, size)) {
				t.Errorf("a changed encoding changes its block to %v, another encoding to % x", allOf(b), second)
			}
			for _, overwriteOne := range overwriters() {
				overwriteOne(&b)
			}
			if !bytes.Equal(second, encoded(original, size)) {
				t.Errorf("a changed block changes its encoding to % x", second)
			}
		}
	}
}

// What the chapter leaves open must not panic: other time sizes, blocks that
// are not encodable, and cursors that are not valid.
func TestOtherArgumentsEnd(t *testing.T) {
	list := append(headers(), fullHeader(9), api.Header{IsUt: most, IsStd: most, Leap: most, Time: most, Type: most, Char: most})
	input := make([]byte, 100)
	for _, size := range []int{min8, -8, -5, -4, -3, -2, -1, 0, 1, 2, 3, 5, 7, 9, 16, 1 << 32, max8 - 4, max8 - 3, max8} {
		for _, h := range list {
			for _, pos := range []int{0, 50, 100} {
				block.Decode(api.Cursor{Data: input, Pos: pos}, h, size, 0)
			}
		}
		block.Encode(full(), size)
	}
	for _, size := range []int{4, 8} {
		for _, h := range list {
			for _, pos := range []int{min8, min8 + 100, -101, -100, -99, -1, 101, 200, max8} {
				block.Decode(api.Cursor{Data: input, Pos: pos}, h, size, 0)
				block.Decode(api.Cursor{Pos: pos, At: 5}, h, size, 0)
			}
		}
		block.Encode(api.Block{Times: []int64{min8, max8}, Leaps: []api.Leap{{At: max8}}}, size)
		block.Encode(api.Block{Index: []uint8{3}}, size)
	}
}
