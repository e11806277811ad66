package layout_test

import (
	"math"
	"math/big"
	"testing"

	"zoneinfo/api"
	"zoneinfo/layout"
)

const (
	most     = math.MaxUint32
	anyLimit = math.MaxUint64
)

// different has six different counts.
func different(version int) api.Header {
	return api.Header{Version: version, IsUt: 11, IsStd: 13, Leap: 17, Time: 19, Type: 23, Char: 29}
}

// largest has the largest counts.
func largest(version int) api.Header {
	return api.Header{Version: version, IsUt: most, IsStd: most, Leap: most, Time: most, Type: most, Char: most}
}

// fields are pointers to the counts of h, by their names.
func fields(h *api.Header) map[string]*uint32 {
	return map[string]*uint32{
		"IsUt": &h.IsUt, "IsStd": &h.IsStd, "Leap": &h.Leap, "Time": &h.Time, "Type": &h.Type, "Char": &h.Char,
	}
}

// alone has n records of one kind and no others.
func alone(kind string, n uint32) api.Header {
	var h api.Header
	*fields(&h)[kind] = n
	return h
}

// headers has all headers whose counts are among some small and large ones,
// most of them with counts that are not consistent.
func headers() []api.Header {
	some := []uint32{0, 1, 250, 65537, 1 << 31, most}
	list := []api.Header{{Version: 2}}
	for _, kind := range []string{"IsUt", "IsStd", "Leap", "Time", "Type", "Char"} {
		var next []api.Header
		for _, h := range list {
			for _, n := range some {
				*fields(&h)[kind] = n
				next = append(next, h)
			}
		}
		list = next
	}
	return list
}

// recordSize is how many bytes one more record of a kind takes: a transition
// has its time and its type index.
func recordSize(kind string, size int) uint64 {
	switch kind {
	case "Time":
		return map[int]uint64{4: 5, 8: 9}[size]
	case "Leap":
		return map[int]uint64{4: 8, 8: 12}[size]
	case "Type":
		return 6
	}
	return 1
}

// exactTotal is the length of the data block, in numbers that cannot overflow.
func exactTotal(h api.Header, size int) *big.Int {
	sum := new(big.Int)
	for kind, n := range fields(&h) {
		width := new(big.Int).SetUint64(recordSize(kind, size))
		sum.Add(sum, width.Mul(width, big.NewInt(int64(*n))))
	}
	return sum
}

func checkLengths(t *testing.T, h api.Header, size int, want [7]uint64) {
	t.Helper()
	if got := layout.Lengths(h, size); got != want {
		t.Errorf("Lengths(%+v, %d) = %d, want %d", h, size, got, want)
	}
}

func checkOffsets(t *testing.T, h api.Header, size int, want [8]uint64) {
	t.Helper()
	if got := layout.Offsets(h, size); got != want {
		t.Errorf("Offsets(%+v, %d) = %d, want %d", h, size, got, want)
	}
}

func checkTotal(t *testing.T, h api.Header, size int, limit, want uint64, wantOK bool) {
	t.Helper()
	if got, ok := layout.Total(h, size, limit); got != want || ok != wantOK {
		t.Errorf("Total(%+v, %d, %d) = %d, %v, want %d, %v", h, size, limit, got, ok, want, wantOK)
	}
}

// checkLimits checks Total, where total is not 0, with limits around it and at
// both ends.
func checkLimits(t *testing.T, h api.Header, size int, total uint64) {
	t.Helper()
	for _, limit := range []uint64{total, total + 1, 2 * total, anyLimit - 1, anyLimit} {
		checkTotal(t, h, size, limit, total, true)
	}
	for _, limit := range []uint64{0, total / 2, total - 1} {
		checkTotal(t, h, size, limit, 0, false)
	}
}

// P14.1, P14.2: the chapter's example.
func TestExample(t *testing.T) {
	h := api.Header{Version: 1, Time: 2, Type: 1, Char: 4}
	checkLengths(t, h, 4, [7]uint64{8, 2, 6, 4, 0, 0, 0})
	checkOffsets(t, h, 4, [8]uint64{0, 8, 10, 16, 20, 20, 20, 20})
	checkTotal(t, h, 4, 20, 20, true)
	checkTotal(t, h, 4, 19, 0, false)

	checkLengths(t, h, 8, [7]uint64{16, 2, 6, 4, 0, 0, 0})
	checkOffsets(t, h, 8, [8]uint64{0, 16, 18, 24, 28, 28, 28, 28})
	checkTotal(t, h, 8, 28, 28, true)
	checkTotal(t, h, 8, 27, 0, false)
}

// P14.1, P14.2: no records take no room, which no limit excludes.
func TestNoRecords(t *testing.T) {
	for _, size := range []int{4, 8} {
		for _, version := range []int{0, 1, 4} {
			h := api.Header{Version: version}
			checkLengths(t, h, size, [7]uint64{})
			checkOffsets(t, h, size, [8]uint64{})
			for _, limit := range []uint64{0, 1, anyLimit} {
				checkTotal(t, h, size, limit, 0, true)
			}
		}
	}
}

// P14.1, P14.2: records of one kind alone: one, three and the most of them.
func TestOneKindAlone(t *testing.T) {
	for _, x := range []struct {
		kind    string
		size    int
		lengths [7]uint64 // with one record
		offsets [8]uint64
	}{
		{"Time", 4, [7]uint64{4, 1, 0, 0, 0, 0, 0}, [8]uint64{0, 4, 5, 5, 5, 5, 5, 5}},
		{"Time", 8, [7]uint64{8, 1, 0, 0, 0, 0, 0}, [8]uint64{0, 8, 9, 9, 9, 9, 9, 9}},
		{"Type", 4, [7]uint64{0, 0, 6, 0, 0, 0, 0}, [8]uint64{0, 0, 0, 6, 6, 6, 6, 6}},
		{"Type", 8, [7]uint64{0, 0, 6, 0, 0, 0, 0}, [8]uint64{0, 0, 0, 6, 6, 6, 6, 6}},
		{"Char", 4, [7]uint64{0, 0, 0, 1, 0, 0, 0}, [8]uint64{0, 0, 0, 0, 1, 1, 1, 1}},
		{"Char", 8, [7]uint64{0, 0, 0, 1, 0, 0, 0}, [8]uint64{0, 0, 0, 0, 1, 1, 1, 1}},
		{"Leap", 4, [7]uint64{0, 0, 0, 0, 8, 0, 0}, [8]uint64{0, 0, 0, 0, 0, 8, 8, 8}},
		{"Leap", 8, [7]uint64{0, 0, 0, 0, 12, 0, 0}, [8]uint64{0, 0, 0, 0, 0, 12, 12, 12}},
		{"IsStd", 4, [7]uint64{0, 0, 0, 0, 0, 1, 0}, [8]uint64{0, 0, 0, 0, 0, 0, 1, 1}},
		{"IsStd", 8, [7]uint64{0, 0, 0, 0, 0, 1, 0}, [8]uint64{0, 0, 0, 0, 0, 0, 1, 1}},
		{"IsUt", 4, [7]uint64{0, 0, 0, 0, 0, 0, 1}, [8]uint64{0, 0, 0, 0, 0, 0, 0, 1}},
		{"IsUt", 8, [7]uint64{0, 0, 0, 0, 0, 0, 1}, [8]uint64{0, 0, 0, 0, 0, 0, 0, 1}},
	} {
		for _, n := range []uint32{1, 3, most} {
			h, lengths, offsets := alone(x.kind, n), x.lengths, x.offsets
			for i := range lengths {
				lengths[i] *= uint64(n)
			}
			for i := range offsets {
				offsets[i] *= uint64(n)
			}
			checkLengths(t, h, x.size, lengths)
			checkOffsets(t, h, x.size, offsets)
			checkLimits(t, h, x.size, offsets[7])
		}
	}
}

// P14.1, P14.2: the counts all differ, so that none is taken for another.
func TestDifferentCounts(t *testing.T) {
	h := different(3)
	checkLengths(t, h, 4, [7]uint64{76, 19, 138, 29, 136, 13, 11})
	checkOffsets(t, h, 4, [8]uint64{0, 76, 95, 233, 262, 398, 411, 422})
	checkLimits(t, h, 4, 422)

	checkLengths(t, h, 8, [7]uint64{152, 19, 138, 29, 204, 13, 11})
	checkOffsets(t, h, 8, [8]uint64{0, 152, 171, 309, 338, 542, 555, 566})
	checkLimits(t, h, 8, 566)
}

// P14.1, P14.2, P14.3: the largest counts at once.
func TestLargestCounts(t *testing.T) {
	h := largest(2)
	checkLengths(t, h, 4, [7]uint64{17179869180, 4294967295, 25769803770, 4294967295, 34359738360, 4294967295, 4294967295})
	checkOffsets(t, h, 4, [8]uint64{0, 17179869180, 21474836475, 47244640245, 51539607540, 85899345900, 90194313195, 94489280490})
	checkLimits(t, h, 4, 94489280490)

	checkLengths(t, h, 8, [7]uint64{34359738360, 4294967295, 25769803770, 4294967295, 51539607540, 4294967295, 4294967295})
	checkOffsets(t, h, 8, [8]uint64{0, 34359738360, 38654705655, 64424509425, 68719476720, 120259084260, 124554051555, 128849018850})
	checkLimits(t, h, 8, 128849018850)
}

// P14.1 to P14.3: for headers of all kinds, each section begins where the one
// before it ends, and the end of the last one is the exact total.
func TestSectionsAreConsecutive(t *testing.T) {
	for _, h := range headers() {
		for _, size := range []int{4, 8} {
			lengths, offsets := layout.Lengths(h, size), layout.Offsets(h, size)
			if offsets[0] != 0 {
				t.Fatalf("%+v, %d: the first offset is %d", h, size, offsets[0])
			}
			for i, length := range lengths {
				if offsets[i+1] < offsets[i] || offsets[i+1]-offsets[i] != length {
					t.Fatalf("%+v, %d: section %d of %d bytes begins at %d, the next one at %d", h, size, i, length, offsets[i], offsets[i+1])
				}
			}
			exact := exactTotal(h, size)
			if !exact.IsUint64() || exact.Uint64() != offsets[7] {
				t.Fatalf("%+v, %d: the last offset is %d, want %d", h, size, offsets[7], exact)
			}
			if total, ok := layout.Total(h, size, anyLimit); total != offsets[7] || !ok {
				t.Fatalf("%+v, %d: the total is %d, %v, want %d", h, size, total, ok, offsets[7])
			}
		}
	}
}

// P14.2: for headers of all kinds, the total is within a limit exactly if it
// is not greater.
func TestTotalAroundItsLimit(t *testing.T) {
	for _, h := range headers() {
		for _, size := range []int{4, 8} {
			total := exactTotal(h, size).Uint64()
			checkTotal(t, h, size, total, total, true)
			checkTotal(t, h, size, total+1, total, true)
			if total > 0 {
				checkTotal(t, h, size, total-1, 0, false)
				checkTotal(t, h, size, 0, 0, false)
			}
			if t.Failed() {
				return
			}
		}
	}
}

// P14.1, P14.2: one more record of a kind lengthens the block by its size, and
// moves no section in front of its own.
func TestOneMoreRecord(t *testing.T) {
	first := map[string]int{"Time": 0, "Type": 2, "Char": 3, "Leap": 4, "IsStd": 5, "IsUt": 6}
	for _, h := range []api.Header{{}, different(1), {Time: 2, Type: 1, Char: 4}, {Time: most - 1, Type: most - 1, Char: most - 1, Leap: most - 1, IsStd: most - 1, IsUt: most - 1}} {
		for _, size := range []int{4, 8} {
			before := layout.Offsets(h, size)
			for kind, section := range first {
				more := h
				*fields(&more)[kind]++
				width, after := recordSize(kind, size), layout.Offsets(more, size)
				if after[7] != before[7]+width {
					t.Errorf("%+v, %d: one more %s: %d bytes, want %d", h, size, kind, after[7], before[7]+width)
				}
				for i := range section + 1 {
					if after[i] != before[i] {
						t.Errorf("%+v, %d: one more %s moves section %d from %d to %d", h, size, kind, i, before[i], after[i])
					}
				}
				checkTotal(t, more, size, before[7]+width, before[7]+width, true)
				checkTotal(t, more, size, before[7]+width-1, 0, false)
			}
		}
	}
}

// P14.1, P14.2: the version has no influence, whatever it is.
func TestVersionHasNoInfluence(t *testing.T) {
	for _, version := range []int{math.MinInt, -1, 0, 1, 2, 3, 4, 5, '2', math.MaxInt} {
		checkLengths(t, different(version), 4, [7]uint64{76, 19, 138, 29, 136, 13, 11})
		checkLengths(t, different(version), 8, [7]uint64{152, 19, 138, 29, 204, 13, 11})
		checkOffsets(t, different(version), 4, [8]uint64{0, 76, 95, 233, 262, 398, 411, 422})
		checkOffsets(t, different(version), 8, [8]uint64{0, 152, 171, 309, 338, 542, 555, 566})
		checkLimits(t, different(version), 4, 422)
		checkLimits(t, different(version), 8, 566)
		checkLimits(t, largest(version), 4, 94489280490)
		checkLimits(t, largest(version), 8, 128849018850)
	}
}

// The chapter leaves other time sizes open; they must not panic.
func TestOtherTimeSizesEnd(t *testing.T) {
	for _, h := range []api.Header{{}, different(2), largest(2)} {
		for _, size := range []int{math.MinInt, -8, -1, 0, 1, 7, 9, math.MaxInt} {
			layout.Lengths(h, size)
			layout.Offsets(h, size)
			for _, limit := range []uint64{0, 100, anyLimit} {
				if total, ok := layout.Total(h, size, limit); !ok && total != 0 {
					t.Errorf("Total(%+v, %d, %d) = %d, %v", h, size, limit, total, ok)
				}
			}
		}
	}
}
