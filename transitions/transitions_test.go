package transitions_test

import (
	"bytes"
	"encoding/binary"
	"encoding/hex"
	"math"
	"math/rand"
	"slices"
	"strings"
	"testing"

	"zoneinfo/transitions"
)

// The smallest and the largest times that 4 and 8 bytes hold.
const (
	min4 = math.MinInt32
	max4 = math.MaxInt32
	min8 = math.MinInt64
	max8 = math.MaxInt64
)

// edges are the times around which the sizes and the signs change.
func edges() []int64 {
	return []int64{min8, min8 + 1, -1 << 32, min4 - 1, min4, min4 + 1, -256, -1, 0, 1, 255, max4 - 1, max4, max4 + 1, 1 << 32, max8 - 1, max8}
}

// bytesOf reads digits of base 16, with blanks between them where they help.
func bytesOf(t *testing.T, digits string) []byte {
	t.Helper()
	b, err := hex.DecodeString(strings.ReplaceAll(digits, " ", ""))
	if err != nil {
		t.Fatal(err)
	}
	return b
}

func checkDecode(t *testing.T, b []byte, size int, want []int64) {
	t.Helper()
	if got := transitions.Decode(b, size); !slices.Equal(got, want) {
		t.Errorf("Decode(% x, %d) = %d, want %d", b, size, got, want)
	}
}

func checkEncode(t *testing.T, times []int64, size int, want []byte) {
	t.Helper()
	if got := transitions.Encode(times, size); !bytes.Equal(got, want) {
		t.Errorf("Encode(%d, %d) = % x, want % x", times, size, got, want)
	}
}

// checkBoth checks that digits encode the times, in both directions.
func checkBoth(t *testing.T, times []int64, size int, digits string) {
	t.Helper()
	checkEncode(t, times, size, bytesOf(t, digits))
	checkDecode(t, bytesOf(t, digits), size, times)
}

func checkDescent(t *testing.T, times []int64, want int) {
	t.Helper()
	if got := transitions.Descent(times); got != want {
		t.Errorf("Descent(%d) = %d, want %d", times, got, want)
	}
}

func checkFit(t *testing.T, times []int64, size int, want bool) {
	t.Helper()
	if got := transitions.Fit(times, size); got != want {
		t.Errorf("Fit(%d, %d) = %v, want %v", times, size, got, want)
	}
}

// P15.1: the chapter's example.
func TestExample(t *testing.T) {
	checkBoth(t, []int64{-1, 5}, 4, "ff ff ff ff 00 00 00 05")
}

// P15.1: no times are no bytes.
func TestEmpty(t *testing.T) {
	for _, size := range []int{4, 8} {
		checkEncode(t, nil, size, nil)
		checkEncode(t, []int64{}, size, nil)
		checkDecode(t, nil, size, nil)
		checkDecode(t, []byte{}, size, nil)
	}
}

// P15.1: one time, in both directions.
func TestOneTime(t *testing.T) {
	for _, x := range []struct {
		time   int64
		size   int
		digits string
	}{
		{0, 4, "00000000"},
		{1, 4, "00000001"},
		{-1, 4, "ffffffff"},
		{-2, 4, "fffffffe"},
		{256, 4, "00000100"},
		{-256, 4, "ffffff00"},
		{0x01020304, 4, "01020304"},
		{1710054000, 4, "65ed5a70"},
		{max4 - 1, 4, "7ffffffe"},
		{max4, 4, "7fffffff"},
		{min4, 4, "80000000"},
		{min4 + 1, 4, "80000001"},

		{0, 8, "0000000000000000"},
		{1, 8, "0000000000000001"},
		{-1, 8, "ffffffffffffffff"},
		{-2, 8, "fffffffffffffffe"},
		{256, 8, "0000000000000100"},
		{-256, 8, "ffffffffffffff00"},
		{0x0102030405060708, 8, "0102030405060708"},
		{1710054000, 8, "0000000065ed5a70"},
		{max4, 8, "000000007fffffff"},
		{max4 + 1, 8, "0000000080000000"},
		{min4, 8, "ffffffff80000000"},
		{min4 - 1, 8, "ffffffff7fffffff"},
		{math.MaxUint32, 8, "00000000ffffffff"},
		{1 << 32, 8, "0000000100000000"},
		{max8 - 1, 8, "7ffffffffffffffe"},
		{max8, 8, "7fffffffffffffff"},
		{min8, 8, "8000000000000000"},
		{min8 + 1, 8, "8000000000000001"},
	} {
		checkBoth(t, []int64{x.time}, x.size, x.digits)
	}
}

// P15.1: several times stand one behind the other in their order, which need
// not be ascending.
func TestSeveralTimes(t *testing.T) {
	checkBoth(t, []int64{-1, 0, 1}, 4, "ffffffff 00000000 00000001")
	checkBoth(t, []int64{-1, 0, 1}, 8, "ffffffffffffffff 0000000000000000 0000000000000001")
	checkBoth(t, []int64{1, 0, -1, 0, 1}, 4, "00000001 00000000 ffffffff 00000000 00000001")
	checkBoth(t, []int64{3, 3, 3}, 4, "00000003 00000003 00000003")
	checkBoth(t, []int64{max4, min4, 0x01020304}, 4, "7fffffff 80000000 01020304")
	checkBoth(t, []int64{max8, min8, 0x0102030405060708}, 8, "7fffffffffffffff 8000000000000000 0102030405060708")
	checkBoth(t, []int64{min4 - 1, min4, max4, max4 + 1}, 8, "ffffffff7fffffff ffffffff80000000 000000007fffffff 0000000080000000")
}

// P15.1: in 4 bytes, of times that do not fit the low bytes are encoded.
func TestEncodeLowBytes(t *testing.T) {
	for _, x := range []struct {
		times  []int64
		digits string
	}{
		{[]int64{max4 + 1}, "80000000"},
		{[]int64{max4 + 2}, "80000001"},
		{[]int64{min4 - 1}, "7fffffff"},
		{[]int64{min4 - 2}, "7ffffffe"},
		{[]int64{math.MaxUint32}, "ffffffff"},
		{[]int64{1 << 32}, "00000000"},
		{[]int64{-1 << 32}, "00000000"},
		{[]int64{max8}, "ffffffff"},
		{[]int64{min8}, "00000000"},
		{[]int64{max8 - 1}, "fffffffe"},
		{[]int64{min8 + 1}, "00000001"},
		{[]int64{0x0102030405060708}, "05060708"},
		{[]int64{5, max4 + 1, -1, min4 - 1, 6}, "00000005 80000000 ffffffff 7fffffff 00000006"},
	} {
		checkEncode(t, x.times, 4, bytesOf(t, x.digits))
	}
}

// P15.1: bytes that are all the same, and those that all differ.
func TestDecodeBytes(t *testing.T) {
	zeros, ones := make([]byte, 16), bytes.Repeat([]byte{0xff}, 16)
	checkDecode(t, zeros, 4, []int64{0, 0, 0, 0})
	checkDecode(t, zeros, 8, []int64{0, 0})
	checkDecode(t, ones, 4, []int64{-1, -1, -1, -1})
	checkDecode(t, ones, 8, []int64{-1, -1})

	low := bytesOf(t, "01020304 05060708 090a0b0c 0d0e0f10")
	checkDecode(t, low, 4, []int64{0x01020304, 0x05060708, 0x090a0b0c, 0x0d0e0f10})
	checkDecode(t, low, 8, []int64{0x0102030405060708, 0x090a0b0c0d0e0f10})

	high := bytesOf(t, "f0f1f2f3 f4f5f6f7 f8f9fafb fcfdfeff")
	checkDecode(t, high, 4, []int64{-0x0f0e0d0d, -0x0b0a0909, -0x07060505, -0x03020101})
	checkDecode(t, high, 8, []int64{-0x0f0e0d0c0b0a0909, -0x0706050403020101})
}

// P15.1: each byte of the bytes counts at its own place.
func TestDecodeEachPlace(t *testing.T) {
	for _, size := range []int{4, 8} {
		for place := range 3 * size {
			b := make([]byte, 3*size)
			b[place] = 0x41
			want := make([]int64, 3)
			want[place/size] = 0x41 << (8 * (size - 1 - place%size))
			checkDecode(t, b, size, want)
			checkEncode(t, want, size, b)
		}
	}
}

// P15.1: lists of times of all magnitudes, against the library's encoding.
func TestAgainstLibrary(t *testing.T) {
	random := rand.New(rand.NewSource(15))
	for range 300 {
		var times, times4 []int64
		var want4, want8 []byte
		for range random.Intn(20) {
			v := random.Uint64() >> random.Intn(64)
			times = append(times, int64(v))
			times4 = append(times4, int64(int32(v)))
			want4 = binary.BigEndian.AppendUint32(want4, uint32(v))
			want8 = binary.BigEndian.AppendUint64(want8, v)
		}
		checkEncode(t, times, 4, want4)
		checkEncode(t, times, 8, want8)
		checkDecode(t, want4, 4, times4)
		checkDecode(t, want8, 8, times)
	}
}

// P15.2: lists of fewer than two times have no neighbors.
func TestDescentWithoutNeighbors(t *testing.T) {
	checkDescent(t, nil, -1)
	checkDescent(t, []int64{}, -1)
	for _, time := range edges() {
		checkDescent(t, []int64{time}, -1)
	}
}

// P15.2: the first fault's place.
func TestDescent(t *testing.T) {
	for _, x := range []struct {
		times []int64
		want  int
	}{
		{[]int64{-1, 0}, -1},
		{[]int64{1, 2, 3, 4, 5}, -1},
		{[]int64{-50, -49, 0, 7, 1000}, -1},

		{[]int64{0, 0}, 1},
		{[]int64{0, -1}, 1},
		{[]int64{2, 1, 3, 4, 5}, 1},
		{[]int64{2, 2, 3, 4, 5}, 1},
		{[]int64{1, 3, 2, 4, 5}, 2},
		{[]int64{1, 3, 3, 4, 5}, 2},
		{[]int64{1, 2, 4, 3, 5}, 3},
		{[]int64{1, 2, 3, 5, 4}, 4},
		{[]int64{1, 2, 3, 5, 5}, 4},

		{[]int64{5, 4, 3, 2, 1}, 1},
		{[]int64{7, 7, 7, 7, 7}, 1},
		{[]int64{1, 2, 2, 1, 0}, 2},
		{[]int64{1, 2, 0, 3, 3}, 2},
		{[]int64{1, 2, 3, 3, 1}, 3},

		// A neighbor counts, not the greatest time so far.
		{[]int64{1, 9, 2, 3, 4}, 2},
		{[]int64{9, 1, 2, 3, 4}, 1},
	} {
		checkDescent(t, x.times, x.want)
	}
}

// P15.2: the smallest and the largest time as neighbors: their differences do
// not fit in 64 bits.
func TestDescentOfExtremes(t *testing.T) {
	checkDescent(t, []int64{min8, max8}, -1)
	checkDescent(t, []int64{max8, min8}, 1)
	checkDescent(t, []int64{min8, min8}, 1)
	checkDescent(t, []int64{max8, max8}, 1)
	checkDescent(t, []int64{min8, min8 + 1, max8 - 1, max8}, -1)
	checkDescent(t, []int64{min8, 0, max8}, -1)
	checkDescent(t, []int64{min8, max8, min8}, 2)
	checkDescent(t, []int64{-1, max8, min8, max8}, 2)
	checkDescent(t, []int64{-2, max8 - 1, max8, max8}, 3)
	checkDescent(t, []int64{1, min8}, 1)
	checkDescent(t, []int64{max8, -1}, 1)
	checkDescent(t, edges(), -1)
}

// P15.2: every pair of edges.
func TestDescentOfPairs(t *testing.T) {
	for i, before := range edges() {
		for j, after := range edges() {
			want := 1
			if j > i {
				want = -1
			}
			checkDescent(t, []int64{before, after}, want)
		}
	}
}

// P15.2: all lists of up to six of four times, against the definition.
func TestDescentOfAllShortLists(t *testing.T) {
	lists := [][]int64{nil}
	for len(lists[0]) < 6 {
		var longer [][]int64
		for _, list := range lists {
			for _, time := range []int64{min8, -1, 0, max8} {
				longer = append(longer, append(slices.Clone(list), time))
			}
		}
		lists = longer
		for _, list := range lists {
			checkDescent(t, list, slices.IndexFunc(indices(list), func(i int) bool {
				return i > 0 && !(list[i] > list[i-1])
			}))
		}
	}
}

func indices(list []int64) []int {
	all := make([]int, len(list))
	for i := range all {
		all[i] = i
	}
	return all
}

// P15.2: no times fit in any size.
func TestFitOfEmptyList(t *testing.T) {
	for _, size := range []int{4, 8} {
		checkFit(t, nil, size, true)
		checkFit(t, []int64{}, size, true)
	}
}

// P15.2: one time at the limits of both sizes.
func TestFitOfOneTime(t *testing.T) {
	for _, time := range edges() {
		checkFit(t, []int64{time}, 4, time >= min4 && time <= max4)
		checkFit(t, []int64{time}, 8, true)
	}
	checkFit(t, []int64{min4}, 4, true)
	checkFit(t, []int64{max4}, 4, true)
	checkFit(t, []int64{min4 - 1}, 4, false)
	checkFit(t, []int64{max4 + 1}, 4, false)
	checkFit(t, []int64{math.MaxUint32}, 4, false)
}

// P15.2: one time that does not fit, at each place.
func TestFitOfLists(t *testing.T) {
	for _, list := range [][]int64{{min4, -1, 0, 1, max4}, {max4, min4, max4, min4, 7}, {0, 0, 0, 0, 0}} {
		checkFit(t, list, 4, true)
		checkFit(t, list, 8, true)
		for place := range list {
			for _, out := range []int64{min4 - 1, max4 + 1, -1 << 32, 1 << 32, min8, max8} {
				times := slices.Clone(list)
				times[place] = out
				checkFit(t, times, 4, false)
				checkFit(t, times, 8, true)
			}
		}
	}
	checkFit(t, []int64{min4 - 1, max4 + 1, min8, max8}, 4, false)
	checkFit(t, edges(), 4, false)
	checkFit(t, edges(), 8, true)
}

// P15.3: decoding the encoding returns the times if they fit, and only then.
func TestTimesComeBack(t *testing.T) {
	lists := [][]int64{nil, edges(), {min4, -1, 0, 1, max4}, {5, 4, 4, max4}, {0, min4 - 1}, {max4 + 1, 0}}
	for _, time := range edges() {
		lists = append(lists, []int64{time}, []int64{0, time}, []int64{time, -1, time})
	}
	for _, times := range lists {
		for _, size := range []int{4, 8} {
			back := transitions.Decode(transitions.Encode(times, size), size)
			if same, fit := slices.Equal(back, times), transitions.Fit(times, size); same != fit {
				t.Errorf("%d in %d bytes: Fit is %v, but the times come back as %d", times, size, fit, back)
			}
		}
	}
}

// P15.3: encoding what was decoded returns the bytes, whatever they are.
func TestBytesComeBack(t *testing.T) {
	random := rand.New(rand.NewSource(153))
	for length := 0; length <= 64; length += 4 {
		for range 50 {
			b := make([]byte, length)
			random.Read(b)
			for _, size := range []int{4, 8} {
				if length%size == 0 {
					checkEncode(t, transitions.Decode(b, size), size, b)
				}
			}
		}
	}
	for v := range 256 {
		for place := range 8 {
			b := bytesOf(t, "7f80ff0001fe5502")
			b[place] = byte(v)
			checkEncode(t, transitions.Decode(b, 4), 4, b)
			checkEncode(t, transitions.Decode(b, 8), 8, b)
		}
	}
}

// P15.1, P15.3: a long list, all times of which count.
func TestLongList(t *testing.T) {
	times := make([]int64, 1<<17)
	for i := range times {
		times[i] = int64(i)*30000 + min4
	}
	for _, size := range []int{4, 8} {
		b := transitions.Encode(times, size)
		if len(b) != len(times)*size {
			t.Fatalf("%d times in %d bytes are encoded in %d bytes", len(times), size, len(b))
		}
		if !transitions.Fit(times, size) || !slices.Equal(transitions.Decode(b, size), times) {
			t.Errorf("%d times in %d bytes do not come back", len(times), size)
		}
	}
	if got := transitions.Descent(times); got != -1 {
		t.Errorf("Descent of an ascending list = %d", got)
	}
	for _, place := range []int{len(times) - 1, len(times) / 2, 1} {
		times[place] = times[place-1]
		if got := transitions.Descent(times); got != place {
			t.Errorf("Descent with its first fault at %d = %d", place, got)
		}
	}
}

// P15.1: the encoding of two lists behind each other is the one encoding
// behind the other, and so are the times of two byte strings.
func TestConcatenation(t *testing.T) {
	lists := [][]int64{nil, {0}, {-1, 5}, {max8, min8, 3}, edges(), {max4 + 1}, {7, 7}}
	for _, size := range []int{4, 8} {
		for _, first := range lists {
			for _, second := range lists {
				a, b := transitions.Encode(first, size), transitions.Encode(second, size)
				checkEncode(t, slices.Concat(first, second), size, slices.Concat(a, b))
				checkDecode(t, slices.Concat(a, b), size, slices.Concat(transitions.Decode(a, size), transitions.Decode(b, size)))
			}
		}
	}
}

// P15.4: the arguments, and what lies behind them in their arrays, stay.
func TestArgumentsStay(t *testing.T) {
	allTimes := []int64{5, -1, max4 + 1, min8, min8, 77, 78, 79}
	allBytes := bytesOf(t, "f0f1f2f3 f4f5f6f7 f8f9fafb fcfdfeff 01020304 05060708")
	times, b := slices.Clone(allTimes), bytes.Clone(allBytes)
	for _, size := range []int{4, 8} {
		transitions.Encode(times[:5], size)
		transitions.Fit(times[:5], size)
		transitions.Descent(times[:5])
		transitions.Descent(times[2:3])
		transitions.Decode(b[:16], size)
		transitions.Decode(b[:0], size)
		transitions.Encode(times[:0], size)
	}
	if !slices.Equal(times, allTimes) {
		t.Errorf("the times have become %d", times)
	}
	if !bytes.Equal(b, allBytes) {
		t.Errorf("the bytes have become % x", b)
	}
}

// P15.4: neither do changes of an argument reach a result, nor those of a
// result an argument or another result.
func TestNoSharedMemory(t *testing.T) {
	for _, size := range []int{4, 8} {
		times := []int64{1, 2, 3}
		b := transitions.Encode(times, size)
		first, second := bytes.Clone(b), transitions.Encode(times, size)
		times[0], times[2] = 99, 98
		if !bytes.Equal(b, first) {
			t.Errorf("size %d: a changed list changes its encoding to % x", size, b)
		}
		overwrite(b, 0xee)
		if !slices.Equal(times, []int64{99, 2, 98}) || !bytes.Equal(second, first) {
			t.Errorf("size %d: a changed encoding changes its list to %d, another encoding to % x", size, times, second)
		}

		decoded, again := transitions.Decode(first, size), transitions.Decode(first, size)
		overwrite(first, 0xdd)
		if !slices.Equal(decoded, []int64{1, 2, 3}) {
			t.Errorf("size %d: changed bytes change their times to %d", size, decoded)
		}
		overwrite(decoded, 97)
		if !bytes.Equal(first, bytes.Repeat([]byte{0xdd}, 3*size)) || !slices.Equal(again, []int64{1, 2, 3}) {
			t.Errorf("size %d: changed times change their bytes to % x, other times to %d", size, first, again)
		}
	}
}

// overwrite fills a list, also behind its end as far as its array goes.
func overwrite[E any](list []E, with E) {
	list = list[:cap(list)]
	for i := range list {
		list[i] = with
	}
}

// The chapter leaves other sizes open, and for Decode other lengths, too; they
// must not panic.
func TestUnspecifiedArgumentsEnd(t *testing.T) {
	b := bytesOf(t, "f0f1f2f3 f4f5f6f7 f8f9fafb fcfdfeff")
	for _, size := range []int{math.MinInt, -8, -4, -1, 0, 1, 2, 3, 5, 7, 9, 16, math.MaxInt} {
		for _, times := range [][]int64{nil, {0}, edges()} {
			transitions.Encode(times, size)
			transitions.Fit(times, size)
		}
		for n := range len(b) + 1 {
			transitions.Decode(b[:n], size)
		}
	}
	for n := range len(b) + 1 {
		transitions.Decode(b[:n], 4)
		transitions.Decode(b[:n], 8)
	}
}
