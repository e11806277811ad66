package bigendian_test

import (
	"bytes"
	"encoding/binary"
	"math"
	"slices"
	"testing"

	"zoneinfo/bigendian"
)

var widths = []int{1, 4, 8}

// values holds numbers around every power of two, so that each bit of a field
// and both sides of each limit are met.
func values() []uint64 {
	list := []uint64{0, 0x0102030405060708, 0xfedcba9876543210, 0x80c0e0f0f8fcfeff}
	for k := range 64 {
		p := uint64(1) << k
		list = append(list, p-1, p, p+1, -p-1, -p, -p+1)
	}
	return list
}

// expected decodes one field by encoding/binary, which bigendian may not use.
func expected(field []byte) (uint64, int64) {
	switch len(field) {
	case 1:
		return uint64(field[0]), int64(int8(field[0]))
	case 4:
		u := binary.BigEndian.Uint32(field)
		return uint64(u), int64(int32(u))
	}
	u := binary.BigEndian.Uint64(field)
	return u, int64(u)
}

func checkField(t *testing.T, b []byte, off, n int, u uint64, s int64, ok bool) {
	t.Helper()
	if got, gotOK := bigendian.Uint(b, off, n); got != u || gotOK != ok {
		t.Errorf("Uint(% x, %d, %d) = %#x, %v, want %#x, %v", b, off, n, got, gotOK, u, ok)
	}
	if got, gotOK := bigendian.Int(b, off, n); got != s || gotOK != ok {
		t.Errorf("Int(% x, %d, %d) = %d, %v, want %d, %v", b, off, n, got, gotOK, s, ok)
	}
}

// P1.1: literal values, independent of any other decoder.
func TestReadKnownFields(t *testing.T) {
	b := []byte{0x01, 0x02, 0x03, 0x04, 0x85, 0x06, 0x07, 0x08, 0xff, 0xff, 0xff, 0xfe}
	for _, x := range []struct {
		off, n int
		u      uint64
		s      int64
	}{
		{0, 1, 1, 1},
		{4, 1, 0x85, -123},
		{11, 1, 0xfe, -2},
		{0, 4, 0x01020304, 16909060},
		{4, 4, 0x85060708, -2063202552},
		{8, 4, 0xfffffffe, -2},
		{0, 8, 0x0102030485060708, 0x0102030485060708},
		{4, 8, 0x85060708fffffffe, -0x7af9f8f700000002},
	} {
		checkField(t, b, x.off, x.n, x.u, x.s, true)
	}
}

// P1.1: the extreme values of every width.
func TestReadExtremes(t *testing.T) {
	for _, n := range widths {
		top := uint64(1) << (8*n - 1)
		low, high := -int64(top-1)-1, int64(top-1)
		zero := make([]byte, n)
		ones := bytes.Repeat([]byte{0xff}, n)
		least := append([]byte{0x80}, make([]byte, n-1)...)
		most := append([]byte{0x7f}, bytes.Repeat([]byte{0xff}, n-1)...)
		checkField(t, zero, 0, n, 0, 0, true)
		checkField(t, ones, 0, n, top-1+top, -1, true)
		checkField(t, least, 0, n, top, low, true)
		checkField(t, most, 0, n, top-1, high, true)
	}
}

// P1.1: fields at every offset of slices of every short length exist exactly
// if all their bytes do.
func TestFieldsExistExactlyInside(t *testing.T) {
	data := []byte{0x91, 0x22, 0xb3, 0x44, 0xd5, 0x66, 0xf7, 0x08, 0x99, 0x2a, 0xbb, 0x4c, 0xdd, 0x6e, 0xff, 0x00, 0x81}
	for size := range len(data) + 1 {
		b := data[:size:size]
		for _, n := range widths {
			for off := -10; off <= size+10; off++ {
				if off < 0 || off+n > size {
					checkField(t, b, off, n, 0, 0, false)
					continue
				}
				u, s := expected(b[off : off+n])
				checkField(t, b, off, n, u, s, true)
			}
		}
	}
}

// P1.1: "all its bytes lie in the slice" means its length, not its capacity.
func TestUnusedCapacityHoldsNoFields(t *testing.T) {
	whole := []byte{1, 2, 3, 4, 5, 6, 7, 8, 9, 10, 11, 12, 13, 14, 15, 16}
	for _, n := range widths {
		checkField(t, whole[:n-1], 0, n, 0, 0, false)
		checkField(t, whole[:8], 9-n, n, 0, 0, false)
	}
}

// P1.1: offsets whose sum with n would overflow, and slices without bytes.
func TestNoFieldAtFarOffsets(t *testing.T) {
	for _, b := range [][]byte{nil, {}, {1}, {1, 2, 3, 4, 5, 6, 7, 8, 9}} {
		for _, n := range widths {
			for d := range 10 {
				checkField(t, b, math.MaxInt-d, n, 0, 0, false)
				checkField(t, b, math.MinInt+d, n, 0, 0, false)
			}
		}
	}
	for _, n := range widths {
		checkField(t, nil, 0, n, 0, 0, false)
		checkField(t, []byte{}, 0, n, 0, 0, false)
	}
}

// P1.2: the bytes that are appended, to empty and to other slices.
func TestAppendBytes(t *testing.T) {
	for _, x := range []struct {
		b    []byte
		n    int
		v    uint64
		want []byte
	}{
		{nil, 4, 0x01020304, []byte{1, 2, 3, 4}},
		{nil, 1, 0x01020304, []byte{4}},
		{nil, 8, 0x01020304, []byte{0, 0, 0, 0, 1, 2, 3, 4}},
		{[]byte{}, 8, 0xf1e2d3c4b5a69788, []byte{0xf1, 0xe2, 0xd3, 0xc4, 0xb5, 0xa6, 0x97, 0x88}},
		{[]byte{9, 8}, 4, 0xf1e2d3c4b5a69788, []byte{9, 8, 0xb5, 0xa6, 0x97, 0x88}},
		{[]byte{9, 8}, 1, 0x1ff, []byte{9, 8, 0xff}},
		{[]byte{0}, 1, 0x100, []byte{0, 0}},
		{nil, 4, 1 << 32, []byte{0, 0, 0, 0}},
		{nil, 8, math.MaxUint64, []byte{255, 255, 255, 255, 255, 255, 255, 255}},
	} {
		if got := bigendian.Append(x.b, x.n, x.v); !bytes.Equal(got, x.want) {
			t.Errorf("Append(% x, %d, %#x) = % x, want % x", x.b, x.n, x.v, got, x.want)
		}
	}
}

// P1.2: the limits of every width.
func TestFitsLimits(t *testing.T) {
	for _, x := range []struct {
		v    int64
		n    int
		want bool
	}{
		{0, 1, true}, {1, 1, true}, {-1, 1, true},
		{127, 1, true}, {128, 1, false}, {255, 1, false}, {256, 1, false},
		{-128, 1, true}, {-129, 1, false}, {-256, 1, false},
		{0, 4, true}, {-1, 4, true},
		{math.MaxInt32, 4, true}, {math.MaxInt32 + 1, 4, false}, {math.MaxUint32, 4, false}, {1 << 32, 4, false},
		{math.MinInt32, 4, true}, {math.MinInt32 - 1, 4, false}, {-1 << 32, 4, false},
		{math.MaxInt64, 1, false}, {math.MinInt64, 1, false},
		{math.MaxInt64, 4, false}, {math.MinInt64, 4, false},
		{0, 8, true}, {math.MaxInt64, 8, true}, {math.MinInt64, 8, true},
	} {
		if got := bigendian.Fits(x.v, x.n); got != x.want {
			t.Errorf("Fits(%d, %d) = %v, want %v", x.v, x.n, got, x.want)
		}
	}
}

// P1.3: what is appended is read back modulo 2^(8n), and exactly if it fits.
func TestReadWhatWasAppended(t *testing.T) {
	for _, n := range widths {
		for _, v := range values() {
			for _, prefix := range [][]byte{nil, {0x80, 0, 0xff}} {
				b := bigendian.Append(prefix, n, v)
				if len(b) != len(prefix)+n || !bytes.Equal(b[:len(prefix)], prefix) {
					t.Fatalf("Append(% x, %d, %#x) = % x", prefix, n, v, b)
				}
				mask := uint64(math.MaxUint64) >> (64 - 8*n)
				if u, ok := bigendian.Uint(b, len(prefix), n); u != v&mask || !ok {
					t.Errorf("Uint of %#x appended in %d bytes = %#x, %v", v, n, u, ok)
				}
				s, ok := bigendian.Int(b, len(prefix), n)
				if fits := bigendian.Fits(int64(v), n); !ok || fits != (s == int64(v)) {
					t.Errorf("Int of %d appended in %d bytes = %d, %v, but Fits = %v", int64(v), n, s, ok, fits)
				}
			}
		}
	}
}

// P1.3: every field of one byte, and fields that lie one behind the other.
func TestReadSequence(t *testing.T) {
	var b []byte
	for v := range 256 {
		b = bigendian.Append(b, 1, uint64(v))
	}
	for v := range 256 {
		checkField(t, b, v, 1, uint64(v), int64(int8(v)), true)
	}
	b = bigendian.Append(b, 4, 0xfffffffd)
	b = bigendian.Append(b, 8, 5)
	checkField(t, b, 256, 4, 0xfffffffd, -3, true)
	checkField(t, b, 260, 8, 5, 5, true)
}

// P1.4: no function writes to its slice or to the unused capacity behind it.
func TestArgumentsStay(t *testing.T) {
	for _, n := range widths {
		for used := range 17 {
			whole := bytes.Repeat([]byte{0xa5}, 32)
			before := slices.Clone(whole)
			b := whole[:used]
			bigendian.Append(b, n, 0x1122334455667788)
			bigendian.Uint(b, 0, n)
			bigendian.Int(b, 0, n)
			if !bytes.Equal(whole, before) {
				t.Fatalf("n = %d, %d bytes used: the argument became % x", n, used, whole)
			}
		}
	}
}

// P1.4: results are memory of their own, with and without unused capacity in
// the argument.
func TestResultsShareNothing(t *testing.T) {
	for _, n := range widths {
		for _, spare := range []int{0, 1, n, 20} {
			b := append(make([]byte, 0, 3+spare), 1, 2, 3)
			one := bigendian.Append(b, n, 0)
			two := bigendian.Append(b, n, math.MaxUint64)
			for i := range one {
				one[i] ^= 0x5a
			}
			if !bytes.Equal(b, []byte{1, 2, 3}) {
				t.Errorf("n = %d, spare = %d: a change of the result changed the argument to % x", n, spare, b)
			}
			want := append([]byte{1, 2, 3}, bytes.Repeat([]byte{0xff}, n)...)
			if !bytes.Equal(two, want) {
				t.Errorf("n = %d, spare = %d: a change of one result changed another to % x", n, spare, two)
			}
			b[0] = 77
			if two[0] != 1 {
				t.Errorf("n = %d, spare = %d: a change of the argument changed a result", n, spare)
			}
		}
	}
}

// Widths that the chapter does not specify have no fields, and end without a
// panic.
func TestOtherWidths(t *testing.T) {
	b := []byte{1, 2, 3, 4, 5, 6, 7, 8, 9, 10, 11, 12, 13, 14, 15, 16}
	for _, n := range []int{math.MinInt, -8, -4, -1, 0, 2, 3, 5, 6, 7, 9, 16, math.MaxInt} {
		for _, off := range []int{math.MinInt, -1, 0, 1, 16, 17, math.MaxInt} {
			checkField(t, b, off, n, 0, 0, false)
		}
		got := bigendian.Append(b, n, 1)
		if !bytes.Equal(got, b) {
			t.Errorf("Append with n = %d returns % x", n, got)
		}
		got[0]++
		if b[0] != 1 {
			t.Fatalf("Append with n = %d returns its argument", n)
		}
		if bigendian.Fits(0, n) {
			t.Errorf("Fits(0, %d) is true", n)
		}
	}
}
