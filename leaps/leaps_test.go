package leaps_test

import (
	"bytes"
	"encoding/binary"
	"encoding/hex"
	"math"
	"math/rand"
	"slices"
	"strings"
	"testing"

	"zoneinfo/api"
	"zoneinfo/leaps"
)

// The smallest and the largest times that 4 and 8 bytes hold, the smallest and
// the largest corrections, and the smallest distance of two records.
const (
	min4    = math.MinInt32
	max4    = math.MaxInt32
	min8    = math.MinInt64
	max8    = math.MaxInt64
	minCorr = math.MinInt32
	maxCorr = math.MaxInt32
	spacing = 2419199
)

// bytesOf reads digits of base 16, with blanks between them where they help.
func bytesOf(t *testing.T, digits string) []byte {
	t.Helper()
	b, err := hex.DecodeString(strings.ReplaceAll(digits, " ", ""))
	if err != nil {
		t.Fatal(err)
	}
	return b
}

func checkDecode(t *testing.T, b []byte, size int, want []api.Leap) {
	t.Helper()
	if got := leaps.Decode(b, size); !slices.Equal(got, want) {
		t.Errorf("Decode(% x, %d) = %v, want %v", b, size, got, want)
	}
}

func checkEncode(t *testing.T, l []api.Leap, size int, want []byte) {
	t.Helper()
	if got := leaps.Encode(l, size); !bytes.Equal(got, want) {
		t.Errorf("Encode(%v, %d) = % x, want % x", l, size, got, want)
	}
}

// checkBoth checks that digits encode the records, in both directions.
func checkBoth(t *testing.T, l []api.Leap, size int, digits string) {
	t.Helper()
	checkEncode(t, l, size, bytesOf(t, digits))
	checkDecode(t, bytesOf(t, digits), size, l)
}

// checkValid checks for which versions a list is valid: for those before 4,
// and for version 4; and so whether it needs version 4.
func checkValid(t *testing.T, l []api.Leap, before4, in4 bool) {
	t.Helper()
	for version := 1; version <= 4; version++ {
		want := before4
		if version == 4 {
			want = in4
		}
		if got := leaps.Valid(l, version); got != want {
			t.Errorf("Valid(%v, %d) = %v, want %v", l, version, got, want)
		}
	}
	if got, want := leaps.NeedsV4(l), in4 && !before4; got != want {
		t.Errorf("NeedsV4(%v) = %v, want %v", l, got, want)
	}
}

func checkForAll(t *testing.T, l []api.Leap)  { t.Helper(); checkValid(t, l, true, true) }
func checkForV4(t *testing.T, l []api.Leap)   { t.Helper(); checkValid(t, l, false, true) }
func checkForNone(t *testing.T, l []api.Leap) { t.Helper(); checkValid(t, l, false, false) }

func checkCorrection(t *testing.T, l []api.Leap, time int64, want int) {
	t.Helper()
	if got := leaps.Correction(l, time); got != want {
		t.Errorf("Correction(%v, %d) = %d, want %d", l, time, got, want)
	}
}

func checkExpiry(t *testing.T, l []api.Leap, want int64, expires bool) {
	t.Helper()
	if got, ok := leaps.Expiry(l); got != want || ok != expires {
		t.Errorf("Expiry(%v) = %d, %v, want %d, %v", l, got, ok, want, expires)
	}
}

// withCorrs makes records that are just far enough apart.
func withCorrs(corrs ...int32) []api.Leap {
	l := make([]api.Leap, len(corrs))
	for i, corr := range corrs {
		l[i] = api.Leap{At: int64(i) * spacing, Corr: corr}
	}
	return l
}

// withTimes makes records whose corrections are 1, 2, 3 and so on.
func withTimes(times ...int64) []api.Leap {
	l := make([]api.Leap, len(times))
	for i, time := range times {
		l[i] = api.Leap{At: time, Corr: int32(i + 1)}
	}
	return l
}

// P17.1, P17.2: the chapter's example.
func TestExample(t *testing.T) {
	l := []api.Leap{{At: 78796800, Corr: 1}, {At: 94694401, Corr: 2}}
	checkForAll(t, l)
	checkBoth(t, l, 4, "04b25800 00000001 05a4ec01 00000002")
	checkBoth(t, l, 8, "0000000004b25800 00000001 0000000005a4ec01 00000002")
	checkCorrection(t, l, 78796799, 0)
	checkCorrection(t, l, 78796800, 1)
	checkCorrection(t, l, 94694400, 1)
	checkCorrection(t, l, 94694401, 2)
	checkExpiry(t, l, 0, false)
}

// P17.1: no records are no bytes.
func TestNoRecords(t *testing.T) {
	for _, size := range []int{4, 8} {
		checkEncode(t, nil, size, nil)
		checkEncode(t, []api.Leap{}, size, nil)
		checkDecode(t, nil, size, nil)
		checkDecode(t, []byte{}, size, nil)
	}
}

// P17.1: one record, in both directions.
func TestOneRecord(t *testing.T) {
	for _, x := range []struct {
		record api.Leap
		size   int
		digits string
	}{
		{api.Leap{}, 4, "00000000 00000000"},
		{api.Leap{At: 1}, 4, "00000001 00000000"},
		{api.Leap{At: -1}, 4, "ffffffff 00000000"},
		{api.Leap{Corr: 1}, 4, "00000000 00000001"},
		{api.Leap{Corr: -1}, 4, "00000000 ffffffff"},
		{api.Leap{At: 1, Corr: -1}, 4, "00000001 ffffffff"},
		{api.Leap{At: -1, Corr: 1}, 4, "ffffffff 00000001"},
		{api.Leap{At: -1, Corr: -1}, 4, "ffffffff ffffffff"},
		{api.Leap{At: 256, Corr: -256}, 4, "00000100 ffffff00"},
		{api.Leap{At: 0x01020304, Corr: 0x05060708}, 4, "01020304 05060708"},
		{api.Leap{At: -0x01020304, Corr: -0x05060708}, 4, "fefdfcfc faf9f8f8"},
		{api.Leap{At: max4 - 1}, 4, "7ffffffe 00000000"},
		{api.Leap{At: max4, Corr: 1}, 4, "7fffffff 00000001"},
		{api.Leap{At: min4, Corr: 1}, 4, "80000000 00000001"},
		{api.Leap{At: min4 + 1}, 4, "80000001 00000000"},
		{api.Leap{At: 5, Corr: maxCorr}, 4, "00000005 7fffffff"},
		{api.Leap{At: 5, Corr: maxCorr - 1}, 4, "00000005 7ffffffe"},
		{api.Leap{At: 5, Corr: minCorr}, 4, "00000005 80000000"},
		{api.Leap{At: 5, Corr: minCorr + 1}, 4, "00000005 80000001"},

		{api.Leap{}, 8, "0000000000000000 00000000"},
		{api.Leap{At: 1}, 8, "0000000000000001 00000000"},
		{api.Leap{At: -1}, 8, "ffffffffffffffff 00000000"},
		{api.Leap{Corr: 1}, 8, "0000000000000000 00000001"},
		{api.Leap{Corr: -1}, 8, "0000000000000000 ffffffff"},
		{api.Leap{At: 1, Corr: -1}, 8, "0000000000000001 ffffffff"},
		{api.Leap{At: -1, Corr: 1}, 8, "ffffffffffffffff 00000001"},
		{api.Leap{At: 0x0102030405060708, Corr: 0x090a0b0c}, 8, "0102030405060708 090a0b0c"},
		{api.Leap{At: max4}, 8, "000000007fffffff 00000000"},
		{api.Leap{At: max4 + 1}, 8, "0000000080000000 00000000"},
		{api.Leap{At: min4}, 8, "ffffffff80000000 00000000"},
		{api.Leap{At: min4 - 1}, 8, "ffffffff7fffffff 00000000"},
		{api.Leap{At: math.MaxUint32}, 8, "00000000ffffffff 00000000"},
		{api.Leap{At: 1 << 32}, 8, "0000000100000000 00000000"},
		{api.Leap{At: max8 - 1}, 8, "7ffffffffffffffe 00000000"},
		{api.Leap{At: max8, Corr: maxCorr}, 8, "7fffffffffffffff 7fffffff"},
		{api.Leap{At: min8, Corr: minCorr}, 8, "8000000000000000 80000000"},
		{api.Leap{At: min8 + 1}, 8, "8000000000000001 00000000"},
	} {
		checkBoth(t, []api.Leap{x.record}, x.size, x.digits)
	}
}

// P17.1: several records stand one behind the other in their order, whether or
// not the list is valid.
func TestSeveralRecords(t *testing.T) {
	l := []api.Leap{{At: 78796800, Corr: 1}, {At: -1, Corr: -1}, {At: max4, Corr: minCorr}, {At: min4, Corr: maxCorr}, {}}
	checkBoth(t, l, 4, "04b25800 00000001  ffffffff ffffffff  7fffffff 80000000  80000000 7fffffff  00000000 00000000")
	checkBoth(t, l, 8, "0000000004b25800 00000001  ffffffffffffffff ffffffff  000000007fffffff 80000000  ffffffff80000000 7fffffff  0000000000000000 00000000")
	same := []api.Leap{{At: 3, Corr: 2}, {At: 3, Corr: 2}, {At: 3, Corr: 2}}
	checkBoth(t, same, 4, "00000003 00000002  00000003 00000002  00000003 00000002")
	checkBoth(t, []api.Leap{{At: max8, Corr: 1}, {At: min8, Corr: 2}}, 8, "7fffffffffffffff 00000001  8000000000000000 00000002")
}

// P17.1: in 4 bytes, of times that do not fit the low bytes are encoded.
func TestEncodeLowBytes(t *testing.T) {
	for _, x := range []struct {
		time   int64
		digits string
	}{
		{max4 + 1, "80000000"},
		{max4 + 2, "80000001"},
		{min4 - 1, "7fffffff"},
		{min4 - 2, "7ffffffe"},
		{math.MaxUint32, "ffffffff"},
		{1 << 32, "00000000"},
		{-1 << 32, "00000000"},
		{max8, "ffffffff"},
		{min8, "00000000"},
		{max8 - 1, "fffffffe"},
		{min8 + 1, "00000001"},
		{0x0102030405060708, "05060708"},
	} {
		checkEncode(t, []api.Leap{{At: x.time, Corr: 1}}, 4, bytesOf(t, x.digits+"00000001"))
		checkEncode(t, []api.Leap{{At: 5, Corr: -1}, {At: x.time, Corr: minCorr}, {At: 6}}, 4,
			bytesOf(t, "00000005 ffffffff"+x.digits+"80000000 00000006 00000000"))
	}
}

// P17.1: bytes that are all the same, and those that all differ.
func TestDecodeBytes(t *testing.T) {
	zeros, ones := make([]byte, 24), bytes.Repeat([]byte{0xff}, 24)
	minus := api.Leap{At: -1, Corr: -1}
	checkDecode(t, zeros, 4, make([]api.Leap, 3))
	checkDecode(t, zeros, 8, make([]api.Leap, 2))
	checkDecode(t, ones, 4, []api.Leap{minus, minus, minus})
	checkDecode(t, ones, 8, []api.Leap{minus, minus})

	low := bytesOf(t, "01020304 05060708 090a0b0c 0d0e0f10 11121314 15161718")
	checkDecode(t, low, 4, []api.Leap{{At: 0x01020304, Corr: 0x05060708}, {At: 0x090a0b0c, Corr: 0x0d0e0f10}, {At: 0x11121314, Corr: 0x15161718}})
	checkDecode(t, low, 8, []api.Leap{{At: 0x0102030405060708, Corr: 0x090a0b0c}, {At: 0x0d0e0f1011121314, Corr: 0x15161718}})

	high := bytesOf(t, "f0f1f2f3 f4f5f6f7 f8f9fafb fcfdfeff")
	checkDecode(t, high, 4, []api.Leap{{At: -0x0f0e0d0d, Corr: -0x0b0a0909}, {At: -0x07060505, Corr: -0x03020101}})
	checkDecode(t, high[:12], 8, []api.Leap{{At: -0x0f0e0d0c0b0a0909, Corr: -0x07060505}})
}

// P17.1: each byte of the bytes counts at its own place.
func TestEachPlace(t *testing.T) {
	for _, size := range []int{4, 8} {
		step := size + 4
		for place := range 3 * step {
			for _, value := range []byte{1, 0x41, 0x80, 0xff} {
				b := make([]byte, 3*step)
				b[place] = value
				want := make([]api.Leap, 3)
				x := &want[place/step]
				switch at := place % step; {
				case at >= size:
					x.Corr = int32(uint32(value) << (8 * (step - 1 - at)))
				case size == 4:
					x.At = int64(int32(uint32(value) << (8 * (3 - at))))
				default:
					x.At = int64(uint64(value) << (8 * (7 - at)))
				}
				checkDecode(t, b, size, want)
				checkEncode(t, want, size, b)
			}
		}
	}
}

// randomRecords makes up to 20 records with numbers of all magnitudes.
func randomRecords(random *rand.Rand) []api.Leap {
	l := make([]api.Leap, random.Intn(20))
	for i := range l {
		l[i] = api.Leap{At: int64(random.Uint64()) >> random.Intn(64), Corr: int32(random.Uint32()) >> random.Intn(32)}
	}
	return l
}

// P17.1: records of all kinds, against the library's encoding.
func TestAgainstLibrary(t *testing.T) {
	random := rand.New(rand.NewSource(17))
	for range 500 {
		l := randomRecords(random)
		var want4, want8 []byte
		low := slices.Clone(l)
		for i, x := range l {
			want4 = binary.BigEndian.AppendUint32(want4, uint32(x.At))
			want4 = binary.BigEndian.AppendUint32(want4, uint32(x.Corr))
			want8 = binary.BigEndian.AppendUint64(want8, uint64(x.At))
			want8 = binary.BigEndian.AppendUint32(want8, uint32(x.Corr))
			low[i].At = int64(int32(x.At))
		}
		checkEncode(t, l, 4, want4)
		checkEncode(t, l, 8, want8)
		checkDecode(t, want4, 4, low)
		checkDecode(t, want8, 8, l)
	}
}

// P17.2: the empty list.
func TestValidEmptyList(t *testing.T) {
	checkForAll(t, nil)
	checkForAll(t, []api.Leap{})
}

// P17.2: the first time must not be negative.
func TestValidFirstTime(t *testing.T) {
	for _, time := range []int64{0, 1, 2, spacing, max4, max4 + 1, 1 << 32, max8 - 1, max8} {
		checkForAll(t, []api.Leap{{At: time, Corr: 1}})
		checkForAll(t, []api.Leap{{At: time, Corr: -1}})
		checkForV4(t, []api.Leap{{At: time, Corr: 7}})
	}
	for _, time := range []int64{-1, -2, -spacing, min4, min4 - 1, -1 << 32, min8 + 1, min8} {
		checkForNone(t, []api.Leap{{At: time, Corr: 1}})
		checkForNone(t, []api.Leap{{At: time, Corr: -1}})
		checkForNone(t, []api.Leap{{At: time, Corr: 7}})
		checkForNone(t, withTimes(time, time+spacing))
		checkForNone(t, withTimes(time, 2*spacing))
	}
	checkForAll(t, withTimes(0, spacing))
	checkForNone(t, withTimes(-1, spacing))
	checkForNone(t, withTimes(-1, spacing, 2*spacing))
}

// P17.2: the first correction is 1 or -1, in version 4 any.
func TestValidFirstCorrection(t *testing.T) {
	for _, corr := range []int32{1, -1} {
		checkForAll(t, withCorrs(corr))
		checkForAll(t, withCorrs(corr, corr+1))
		checkForAll(t, withCorrs(corr, corr-1))
	}
	for _, corr := range []int32{0, 2, -2, 3, 27, 255, 256, 257, -255, 65537, minCorr + 1, maxCorr - 1} {
		checkForV4(t, withCorrs(corr))
		checkForV4(t, withCorrs(corr, corr+1))
		checkForV4(t, withCorrs(corr, corr-1))
		checkForV4(t, withCorrs(corr, corr+1, corr))
	}
	checkForV4(t, withCorrs(minCorr))
	checkForV4(t, withCorrs(maxCorr))
}

// P17.2: two records at distances around the smallest one that is allowed.
func TestValidDistanceOfTwo(t *testing.T) {
	for _, first := range []int64{0, 1, 78796800, max4, max4 + 1, 1 << 32, 1 << 62, max8 - spacing - 1} {
		for _, distance := range []int64{-spacing - 1, -spacing, -1, 0, 1, 2, spacing - 2, spacing - 1} {
			checkForNone(t, withTimes(first, first+distance))
			checkForNone(t, []api.Leap{{At: first, Corr: 7}, {At: first + distance, Corr: 7}})
		}
		for _, distance := range []int64{spacing, spacing + 1} {
			checkForAll(t, withTimes(first, first+distance))
			checkForV4(t, []api.Leap{{At: first, Corr: 7}, {At: first + distance, Corr: 7}})
		}
	}
	checkForNone(t, withTimes(0, 2419198))
	checkForAll(t, withTimes(0, 2419199))
	checkForAll(t, withTimes(0, 2419200))
}

// P17.2: times that are far apart: their differences need not fit in 64 bits.
func TestValidFarApart(t *testing.T) {
	checkForAll(t, withTimes(0, max8))
	checkForAll(t, withTimes(1, max8-1))
	checkForAll(t, withTimes(0, max8-spacing, max8))
	checkForNone(t, withTimes(0, max8-spacing+1, max8))
	checkForAll(t, withTimes(max8-spacing, max8))
	checkForNone(t, withTimes(max8-spacing+1, max8))
	checkForAll(t, withTimes(0, 1<<32))
	checkForAll(t, withTimes(0, 1<<32, 1<<32+spacing))
	checkForNone(t, withTimes(0, 1<<32, 1<<32+spacing-1))
	for _, first := range []int64{0, 1, 2, spacing, 1 << 32, max8 - 1, max8} {
		for _, second := range []int64{min8, min8 + 1, min8 + spacing, -1 << 32, -spacing, -1} {
			checkForNone(t, withTimes(first, second))
			checkForNone(t, withTimes(first, second, max8))
		}
	}
	checkForNone(t, withTimes(max8, max8))
	checkForNone(t, withTimes(max8, 0))
	checkForNone(t, withTimes(0, max8, min8))
	checkForNone(t, withTimes(0, max8, min8+spacing-1))
	checkForNone(t, withTimes(min8, max8))
	checkForNone(t, withTimes(min8, 0, max8))
}

// P17.2: one distance of several that is too small, at each place.
func TestValidDistanceAtEachPlace(t *testing.T) {
	for place := 1; place < 6; place++ {
		for _, x := range []struct {
			distance int64
			valid    bool
		}{
			{-spacing, false}, {-1, false}, {0, false}, {1, false}, {spacing - 1, false},
			{spacing, true}, {spacing + 1, true}, {10 * spacing, true}, {1 << 40, true},
		} {
			times := make([]int64, 6)
			for i := 1; i < len(times); i++ {
				times[i] = times[i-1] + spacing
				if i == place {
					times[i] = times[i-1] + x.distance
				}
			}
			checkValid(t, withTimes(times...), x.valid, x.valid)
			expiring := withTimes(times...)
			expiring[5].Corr = expiring[4].Corr
			checkValid(t, expiring, false, x.valid)
		}
	}
}

// P17.2: the steps between corrections, in the middle and at the end.
func TestValidSteps(t *testing.T) {
	for _, step := range []int32{-256, -3, -2, 2, 3, 255, 256, 257, 65537, 1 << 24} {
		checkForNone(t, withCorrs(1, 1+step))
		checkForNone(t, withCorrs(-1, -1+step))
		checkForNone(t, withCorrs(1, 2, 2+step))
		checkForNone(t, withCorrs(1, 1+step, 2+step))
		checkForNone(t, withCorrs(7, 7+step))
		checkForNone(t, withCorrs(7, 7+step, 7+step))
	}
	for _, step := range []int32{-1, 1} {
		checkForAll(t, withCorrs(1, 1+step))
		checkForAll(t, withCorrs(-1, -1+step))
		checkForAll(t, withCorrs(1, 2, 2+step))
		checkForAll(t, withCorrs(1, 1+step, 2+step))
		checkForV4(t, withCorrs(7, 7+step))
		checkForV4(t, withCorrs(7, 7+step, 7+step))
	}
	checkForAll(t, withCorrs(1, 0, -1, -2, -1, 0, 1, 2, 3))
	checkForAll(t, withCorrs(-1, 0, 1, 0, -1, -2, -3))
	checkForNone(t, withCorrs(1, -1))
	checkForNone(t, withCorrs(-1, 1))
	checkForNone(t, withCorrs(1, 2, 4, 5))
	checkForNone(t, withCorrs(1, 2, 3, 5))
	checkForNone(t, withCorrs(1, 2, 1, -1))
}

// P17.2: the steps between the smallest and the largest corrections do not
// wrap.
func TestValidExtremeSteps(t *testing.T) {
	checkForNone(t, withCorrs(minCorr, maxCorr))
	checkForNone(t, withCorrs(maxCorr, minCorr))
	checkForNone(t, withCorrs(1, minCorr))
	checkForNone(t, withCorrs(-1, maxCorr))
	checkForNone(t, withCorrs(0, minCorr))
	checkForNone(t, withCorrs(maxCorr-1, maxCorr, minCorr))
	checkForNone(t, withCorrs(minCorr+1, minCorr, maxCorr))
	checkForV4(t, withCorrs(minCorr, minCorr+1))
	checkForV4(t, withCorrs(minCorr+1, minCorr))
	checkForV4(t, withCorrs(maxCorr, maxCorr-1))
	checkForV4(t, withCorrs(maxCorr-1, maxCorr))
	checkForV4(t, withCorrs(minCorr, minCorr))
	checkForV4(t, withCorrs(maxCorr, maxCorr))
	checkForV4(t, withCorrs(maxCorr-1, maxCorr, maxCorr))
}

// P17.2: an expiration, which is the last record and not the only one.
func TestValidExpiration(t *testing.T) {
	checkForV4(t, withCorrs(1, 1))
	checkForV4(t, withCorrs(-1, -1))
	checkForV4(t, withCorrs(0, 0))
	checkForV4(t, withCorrs(27, 27))
	checkForV4(t, withCorrs(1, 2, 2))
	checkForV4(t, withCorrs(1, 0, 0))
	checkForV4(t, withCorrs(1, 2, 3, 4, 3, 3))
	checkForV4(t, withCorrs(26, 27, 27))

	checkForNone(t, withCorrs(1, 1, 1))
	checkForNone(t, withCorrs(1, 1, 2))
	checkForNone(t, withCorrs(1, 1, 0))
	checkForNone(t, withCorrs(0, 0, 0))
	checkForNone(t, withCorrs(0, 0, 1))
	checkForNone(t, withCorrs(1, 2, 2, 2))
	checkForNone(t, withCorrs(1, 2, 2, 3))
	checkForNone(t, withCorrs(1, 1, 2, 2))
	checkForNone(t, withCorrs(1, 2, 2, 3, 3))
	checkForNone(t, withCorrs(1, 3, 3))
	checkForNone(t, withCorrs(5, 3, 3))
}

// P17.2: what needs version 4 by both the first correction and an expiration.
func TestNeedsV4ByBoth(t *testing.T) {
	checkForV4(t, withCorrs(5, 6, 6))
	checkForV4(t, withCorrs(0, 0))
	checkForV4(t, withCorrs(minCorr, minCorr))
	checkForV4(t, []api.Leap{{At: 0, Corr: -7}, {At: max8, Corr: -7}})
	checkForNone(t, []api.Leap{{At: -1, Corr: 5}, {At: spacing, Corr: 5}})
	checkForNone(t, []api.Leap{{At: 0, Corr: 5}, {At: spacing - 1, Corr: 5}})
}

// defined says from the definition alone whether a list is valid.
func defined(l []api.Leap, version int) bool {
	for i, x := range l {
		if i == 0 {
			if x.At < 0 || version < 4 && x.Corr != 1 && x.Corr != -1 {
				return false
			}
			continue
		}
		p := l[i-1]
		up, down := p.Corr < maxCorr && x.Corr == p.Corr+1, p.Corr > minCorr && x.Corr == p.Corr-1
		expires := version == 4 && i == len(l)-1 && x.Corr == p.Corr
		if p.At > max8-spacing || x.At < p.At+spacing || !up && !down && !expires {
			return false
		}
	}
	return true
}

// P17.2, P17.4: all lists of up to four records of some times and corrections,
// against the definition.
func TestValidOfAllShortLists(t *testing.T) {
	var kinds []api.Leap
	for _, at := range []int64{-1, 0, spacing - 1, spacing, 2 * spacing} {
		for _, corr := range []int32{-1, 0, 1, 2} {
			kinds = append(kinds, api.Leap{At: at, Corr: corr})
		}
	}
	lists := [][]api.Leap{nil}
	for len(lists[0]) < 4 {
		var longer [][]api.Leap
		for _, list := range lists {
			for _, kind := range kinds {
				longer = append(longer, append(slices.Clone(list), kind))
			}
		}
		lists = longer
		for _, list := range lists {
			checkValid(t, list, defined(list, 3), defined(list, 4))
		}
	}
}

// P17.2, P17.4: long walks of corrections with few faults, against the
// definition.
func TestValidOfRandomLists(t *testing.T) {
	random := rand.New(rand.NewSource(172))
	found := map[[2]bool]int{}
	for range 20000 {
		l := make([]api.Leap, 1+random.Intn(9))
		l[0] = api.Leap{At: int64(random.Intn(20) - 1), Corr: int32(random.Intn(5) - 2)}
		for i := 1; i < len(l); i++ {
			l[i] = api.Leap{At: l[i-1].At + spacing + int64(random.Intn(40)) - 1, Corr: l[i-1].Corr + int32(random.Intn(2)*2-1)}
			if random.Intn(8) == 0 {
				l[i].Corr = l[i-1].Corr + int32(random.Intn(5)-2)
			}
		}
		in3, in4 := defined(l, 3), defined(l, 4)
		found[[2]bool{in3, in4}]++
		checkValid(t, l, in3, in4)
		if leaps.Valid(l, 3) && !(leaps.Valid(l, 1) && leaps.Valid(l, 2) && leaps.Valid(l, 4)) {
			t.Errorf("%v is valid for version 3 only", l)
		}
	}
	if len(found) != 3 {
		t.Errorf("the lists are of the kinds %v, want all three", found)
	}
}

// P17.3: the empty list has the correction 0 at every time.
func TestCorrectionOfEmptyList(t *testing.T) {
	for _, time := range []int64{min8, -1, 0, 1, max8} {
		checkCorrection(t, nil, time, 0)
		checkCorrection(t, []api.Leap{}, time, 0)
	}
}

// P17.3: before, at, between and after the times of the records.
func TestCorrection(t *testing.T) {
	l := []api.Leap{{At: 10, Corr: -5}, {At: 3000000, Corr: -4}, {At: 6000000, Corr: -5}, {At: 9000000, Corr: -5}}
	checkForV4(t, l)
	for _, x := range []struct {
		time int64
		want int
	}{
		{min8, 0}, {-1, 0}, {0, 0}, {9, 0},
		{10, -5}, {11, -5}, {1000000, -5}, {2999999, -5},
		{3000000, -4}, {3000001, -4}, {5999999, -4},
		{6000000, -5}, {6000001, -5}, {8999999, -5},
		{9000000, -5}, {9000001, -5}, {max8, -5},
	} {
		checkCorrection(t, l, x.time, x.want)
		checkCorrection(t, l[:3], x.time, x.want)
	}
}

// P17.3: one record, with the smallest and the largest times and corrections.
func TestCorrectionOfOneRecord(t *testing.T) {
	for _, corr := range []int32{minCorr, -1, 0, 1, 27, maxCorr} {
		for _, at := range []int64{0, 1, 78796800, max4, max8 - 1, max8} {
			l := []api.Leap{{At: at, Corr: corr}}
			checkCorrection(t, l, min8, 0)
			checkCorrection(t, l, -1, 0)
			checkCorrection(t, l, at-1, 0)
			checkCorrection(t, l, at, int(corr))
			checkCorrection(t, l, max8, int(corr))
		}
	}
}

// P17.3: lists of all lengths, around the time of each record.
func TestCorrectionAroundEachRecord(t *testing.T) {
	for length := range 40 {
		l := make([]api.Leap, length)
		for i := range l {
			l[i] = api.Leap{At: int64(i) * (spacing + 7), Corr: int32(i + 1)}
		}
		before := 0
		for i, x := range l {
			checkCorrection(t, l, x.At-1, before)
			checkCorrection(t, l, x.At, i+1)
			checkCorrection(t, l, x.At+1, i+1)
			checkCorrection(t, l, x.At+spacing, i+1)
			before = i + 1
		}
		checkCorrection(t, l, min8, 0)
		checkCorrection(t, l, max8, length)
	}
}

// P17.3: the time of an expiration, which is only there if the last two
// corrections are the same.
func TestExpiry(t *testing.T) {
	checkExpiry(t, nil, 0, false)
	checkExpiry(t, []api.Leap{}, 0, false)
	for _, corr := range []int32{minCorr, -1, 0, 1, 2, maxCorr} {
		checkExpiry(t, []api.Leap{{At: 0, Corr: corr}}, 0, false)
		checkExpiry(t, []api.Leap{{At: 78796800, Corr: corr}}, 0, false)
		checkExpiry(t, []api.Leap{{At: 7, Corr: corr}, {At: 78796800, Corr: corr}}, 78796800, true)
		checkExpiry(t, []api.Leap{{At: 0, Corr: corr}, {At: spacing, Corr: corr}}, spacing, true)
		checkExpiry(t, []api.Leap{{At: 0, Corr: corr}, {At: max8, Corr: corr}}, max8, true)
	}
	checkExpiry(t, withCorrs(1, 2), 0, false)
	checkExpiry(t, withCorrs(1, 0), 0, false)
	checkExpiry(t, withCorrs(-1, 0), 0, false)
	checkExpiry(t, withCorrs(0, 1), 0, false)
	checkExpiry(t, withCorrs(maxCorr, maxCorr-1), 0, false)
	checkExpiry(t, withCorrs(1, 2, 2), 2*spacing, true)
	checkExpiry(t, withCorrs(1, 2, 1), 0, false)
	checkExpiry(t, withCorrs(1, 2, 3, 2, 1, 0, 0), 6*spacing, true)
	checkExpiry(t, withCorrs(1, 2, 3, 2, 1, 0, -1), 0, false)
}

// P17.4: decoding the encoding returns the records if their times fit, and
// only then.
func TestRecordsComeBack(t *testing.T) {
	times := []int64{min8, min8 + 1, -1 << 32, min4 - 1, min4, min4 + 1, -1, 0, 1, max4 - 1, max4, max4 + 1, math.MaxUint32, 1 << 32, max8 - 1, max8}
	for _, time := range times {
		for _, corr := range []int32{minCorr, minCorr + 1, -1, 0, 1, maxCorr - 1, maxCorr} {
			l := []api.Leap{{At: 5, Corr: 1}, {At: time, Corr: corr}, {At: -5, Corr: -1}}
			checkDecode(t, leaps.Encode(l, 8), 8, l)
			fits := time >= min4 && time <= max4
			if back := leaps.Decode(leaps.Encode(l, 4), 4); slices.Equal(back, l) != fits {
				t.Errorf("%v in 4 bytes come back as %v", l, back)
			}
		}
	}
	random := rand.New(rand.NewSource(174))
	for range 300 {
		l := randomRecords(random)
		checkDecode(t, leaps.Encode(l, 8), 8, l)
	}
}

// P17.4: encoding what was decoded returns the bytes, whatever they are.
func TestBytesComeBack(t *testing.T) {
	random := rand.New(rand.NewSource(1740))
	for _, size := range []int{4, 8} {
		for records := range 12 {
			for range 100 {
				b := make([]byte, records*(size+4))
				random.Read(b)
				l := leaps.Decode(b, size)
				if len(l) != records {
					t.Errorf("% x are decoded to %d records, want %d", b, len(l), records)
				}
				checkEncode(t, l, size, b)
			}
		}
	}
}

// P17.1, P17.2, P17.3, P17.4: a long list, all records of which count.
func TestLongList(t *testing.T) {
	l := make([]api.Leap, 1<<17)
	for i := range l {
		l[i] = api.Leap{At: int64(i) * spacing, Corr: int32(i + 1)}
	}
	for _, size := range []int{4, 8} {
		if b := leaps.Encode(l, size); len(b) != (size+4)*len(l) {
			t.Errorf("%d records are encoded in %d bytes", len(l), len(b))
		}
	}
	if got := leaps.Decode(leaps.Encode(l, 8), 8); !slices.Equal(got, l) {
		t.Errorf("%d records do not come back", len(l))
	}
	last := len(l) - 1
	if !leaps.Valid(l, 1) || leaps.NeedsV4(l) || leaps.Correction(l, max8) != last+1 || leaps.Correction(l, l[last].At-1) != last {
		t.Errorf("%d valid records are not valid, or have other corrections", len(l))
	}
	l[last].Corr--
	if at, ok := leaps.Expiry(l); !leaps.NeedsV4(l) || at != l[last].At || !ok {
		t.Errorf("%d records with an expiration have %d, %v", len(l), at, ok)
	}
	l[last].At--
	if leaps.Valid(l, 4) {
		t.Errorf("%d records are valid though the last one is too near", len(l))
	}
}

// P17.1: the encoding of two lists behind each other is the one encoding
// behind the other, and so are the records of two byte strings.
func TestConcatenation(t *testing.T) {
	lists := [][]api.Leap{nil, {{}}, withCorrs(1, 2, 2), {{At: min4, Corr: minCorr}, {At: max4, Corr: maxCorr}}}
	for _, size := range []int{4, 8} {
		for _, first := range lists {
			for _, second := range lists {
				l := slices.Concat(first, second)
				b := slices.Concat(leaps.Encode(first, size), leaps.Encode(second, size))
				checkEncode(t, l, size, b)
				checkDecode(t, b, size, l)
			}
		}
	}
}

// P17.1, P17.2, P17.3: what lies behind the argument in its array is none of
// it.
func TestBehindTheEnd(t *testing.T) {
	l := withCorrs(1, 2, 2, 2)
	checkForAll(t, l[:2])
	checkForV4(t, l[:3])
	checkForNone(t, l)
	checkExpiry(t, l[:2], 0, false)
	checkExpiry(t, l[:3], 2*spacing, true)
	checkCorrection(t, l[:0], max8, 0)
	checkCorrection(t, l[:1], max8, 1)
	checkEncode(t, l[:1], 4, bytesOf(t, "00000000 00000001"))
	b := bytesOf(t, "00000000 00000001 0024e9ff 00000002")
	checkDecode(t, b[:8], 4, l[:1])
	checkDecode(t, b[:0], 8, nil)
}

// P17.5: the arguments, and what lies behind them in their arrays, stay.
func TestArgumentsStay(t *testing.T) {
	allRecords := []api.Leap{{At: 0, Corr: 1}, {At: spacing, Corr: 2}, {At: 2 * spacing, Corr: 2}, {At: min8, Corr: 9}, {At: max8, Corr: minCorr}}
	allBytes := bytesOf(t, "01020304 05060708 f9fafbfc fdfeff00 11121314 15161718")
	l, b := slices.Clone(allRecords), bytes.Clone(allBytes)
	for n := range len(l) + 1 {
		for _, size := range []int{4, 8} {
			leaps.Encode(l[:n], size)
			for steps := range len(b)/(size+4) + 1 {
				leaps.Decode(b[:steps*(size+4)], size)
			}
		}
		for version := 1; version <= 4; version++ {
			leaps.Valid(l[:n], version)
		}
		leaps.NeedsV4(l[:n])
		if n <= 3 {
			leaps.Correction(l[:n], spacing)
			leaps.Expiry(l[:n])
		}
	}
	if !slices.Equal(l, allRecords) {
		t.Errorf("the records have become %v", l)
	}
	if !bytes.Equal(b, allBytes) {
		t.Errorf("the bytes have become % x", b)
	}
}

// overwrite fills a list, also behind its end as far as its array goes.
func overwrite[E any](list []E, with E) {
	list = list[:cap(list)]
	for i := range list {
		list[i] = with
	}
}

// P17.5: neither do changes of an argument reach a result, nor those of a
// result an argument or another result.
func TestNoSharedMemory(t *testing.T) {
	original := withCorrs(1, 2, 3)
	junk := api.Leap{At: 99, Corr: 98}
	for _, size := range []int{4, 8} {
		l := slices.Clone(original)
		b, other := leaps.Encode(l, size), leaps.Encode(l, size)
		encoded := bytes.Clone(b)
		overwrite(l, junk)
		if !bytes.Equal(b, encoded) {
			t.Errorf("changed records change their encoding to % x", b)
		}
		overwrite(b, 0xee)
		if l[0] != junk || l[2] != junk || !bytes.Equal(other, encoded) {
			t.Errorf("a changed encoding changes its records to %v, another encoding to % x", l, other)
		}

		source := bytes.Clone(encoded)
		decoded, again := leaps.Decode(source, size), leaps.Decode(source, size)
		overwrite(source, 0xdd)
		if !slices.Equal(decoded, original) {
			t.Errorf("changed bytes change their records to %v", decoded)
		}
		overwrite(decoded, junk)
		if source[0] != 0xdd || source[len(source)-1] != 0xdd || !slices.Equal(again, original) {
			t.Errorf("changed records change their bytes to % x, other records to %v", source, again)
		}
	}
}

// What the chapter leaves open must not panic: other time sizes, other lengths
// of byte slices, other versions, and lists that are not valid.
func TestOtherArgumentsEnd(t *testing.T) {
	b := bytesOf(t, "01020304 05060708 f9fafbfc fdfeff00 11121314 15161718")
	lists := [][]api.Leap{nil, {{}}, withCorrs(5, 5, 5), {{At: max8}, {At: min8}, {At: max8}}}
	for _, size := range []int{4, 8, min8, -8, -4, -3, -1, 0, 1, 3, 5, 16, max8 - 3, max8} {
		for n := range len(b) + 1 {
			leaps.Decode(b[:n], size)
		}
		for _, l := range lists {
			leaps.Encode(l, size)
		}
	}
	for _, l := range lists {
		for _, version := range []int{min8, -1, 0, 5, 255, max8} {
			leaps.Valid(l, version)
		}
		for _, time := range []int64{min8, -1, 0, 1, max8} {
			leaps.Correction(l, time)
		}
		leaps.Expiry(l)
	}
}
