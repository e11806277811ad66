package sizes_test

import (
	"math"
	"math/big"
	"slices"
	"testing"

	"zoneinfo/sizes"
)

const most uint64 = math.MaxUint64

// values holds numbers around every power of two and around the square root
// of 2^64, so that sums and products lie on both sides of 2^64.
func values() []uint64 {
	list := []uint64{0, 1, 3, 5, 6, 10, 44, 1000003, 1<<32 - 2, 1<<32 + 2, most - 2, most - 1, most}
	for k := 1; k < 64; k++ {
		p := uint64(1) << k
		list = append(list, p-1, p, p+1)
	}
	slices.Sort(list)
	return slices.Compact(list)
}

func number(v uint64) *big.Int { return new(big.Int).SetUint64(v) }

// atMost is what a function returns for the exact value v.
func atMost(v *big.Int, limit uint64) (uint64, bool) {
	if v.Cmp(number(limit)) > 0 {
		return 0, false
	}
	return v.Uint64(), true
}

// exactTotal is computed without a limit, and so never stops early.
func exactTotal(counts, widths []uint64) *big.Int {
	sum := new(big.Int)
	for i := range min(len(counts), len(widths)) {
		sum.Add(sum, new(big.Int).Mul(number(counts[i]), number(widths[i])))
	}
	return sum
}

func checkAdd(t *testing.T, a, b, limit, want uint64, wantOK bool) {
	t.Helper()
	if got, ok := sizes.Add(a, b, limit); got != want || ok != wantOK {
		t.Errorf("Add(%#x, %#x, %#x) = %#x, %v, want %#x, %v", a, b, limit, got, ok, want, wantOK)
	}
}

func checkMul(t *testing.T, a, b, limit, want uint64, wantOK bool) {
	t.Helper()
	if got, ok := sizes.Mul(a, b, limit); got != want || ok != wantOK {
		t.Errorf("Mul(%#x, %#x, %#x) = %#x, %v, want %#x, %v", a, b, limit, got, ok, want, wantOK)
	}
}

func checkTotal(t *testing.T, counts, widths []uint64, limit, want uint64, wantOK bool) {
	t.Helper()
	if got, ok := sizes.Total(counts, widths, limit); got != want || ok != wantOK {
		t.Errorf("Total(%#x, %#x, %#x) = %#x, %v, want %#x, %v", counts, widths, limit, got, ok, want, wantOK)
	}
}

// limitsAround are the least and the greatest limit, and those just below, at
// and just above v, as far as they are 64-bit numbers.
func limitsAround(v *big.Int) []uint64 {
	list := []uint64{0, 1, most - 1, most}
	for d := int64(-1); d <= 1; d++ {
		if near := new(big.Int).Add(v, big.NewInt(d)); near.IsUint64() {
			list = append(list, near.Uint64())
		}
	}
	return list
}

// P3.1: literal sums: ordinary ones, at the limit, one above it, at and above
// 2^64.
func TestAddKnown(t *testing.T) {
	for _, x := range []struct {
		a, b, limit uint64
		want        uint64
		ok          bool
	}{
		{2, 3, 100, 5, true},
		{44, 7, 51, 51, true}, {44, 7, 50, 0, false}, {44, 7, 52, 51, true},
		{0, 0, 0, 0, true}, {0, 1, 0, 0, false}, {1, 0, 0, 0, false},
		{5, 0, 4, 0, false}, {0, 5, 4, 0, false}, {5, 0, 5, 5, true}, {0, 5, 5, 5, true},
		{1 << 63, 1<<63 - 1, most, most, true}, {1 << 63, 1<<63 - 1, most - 1, 0, false},
		{most, 0, most, most, true}, {0, most, most, most, true}, {most, 0, most - 1, 0, false},
		{most - 1, 1, most, most, true},
		{1 << 63, 1 << 63, most, 0, false}, {1 << 63, 1 << 63, 0, 0, false},
		{most, 1, most, 0, false}, {1, most, most, 0, false}, {most, 1, 0, 0, false},
		{most, 6, 5, 0, false}, {most, 6, 100, 0, false},
		{most, most, most, 0, false}, {most, most, most - 1, 0, false}, {most, most, 0, 0, false},
	} {
		checkAdd(t, x.a, x.b, x.limit, x.want, x.ok)
	}
}

// P3.1: literal products: the chapter's example, ordinary ones, a factor 0,
// at the limit, one above it, at and above 2^64.
func TestMulKnown(t *testing.T) {
	for _, x := range []struct {
		a, b, limit uint64
		want        uint64
		ok          bool
	}{
		{1 << 32, 1 << 32, 1 << 63, 0, false},
		{6, 7, 100, 42, true},
		{6, 7, 42, 42, true}, {6, 7, 41, 0, false}, {6, 7, 43, 42, true},
		{0, 0, 0, 0, true}, {0, most, 0, 0, true}, {most, 0, 0, 0, true}, {0, 3, most, 0, true},
		{1, 1, 0, 0, false}, {1, 1, 1, 1, true},
		{1, most, most, most, true}, {most, 1, most, most, true}, {most, 1, most - 1, 0, false},
		{1<<32 - 1, 1<<32 + 1, most, most, true}, {1<<32 - 1, 1<<32 + 1, most - 1, 0, false},
		{3, 0x5555555555555555, most, most, true}, {3, 0x5555555555555556, most, 0, false},
		{1 << 31, 1 << 32, 1 << 63, 1 << 63, true}, {1 << 31, 1 << 32, 1<<63 - 1, 0, false},
		{1 << 32, 1 << 32, most, 0, false}, {1 << 32, 1 << 32, 0, 0, false},
		{2, 1 << 63, most, 0, false}, {2, 1 << 63, 0, 0, false}, {1 << 63, 3, 1 << 63, 0, false},
		{1<<32 + 1, 1 << 32, 1 << 32, 0, false},
		{most, 2, most, 0, false}, {most, most, most, 0, false}, {most, most, 1, 0, false},
	} {
		checkMul(t, x.a, x.b, x.limit, x.want, x.ok)
	}
}

// P3.1: all pairs of values, with limits around the exact result.
func TestAddAndMulAreExact(t *testing.T) {
	for _, a := range values() {
		for _, b := range values() {
			sum := new(big.Int).Add(number(a), number(b))
			for _, limit := range limitsAround(sum) {
				want, ok := atMost(sum, limit)
				checkAdd(t, a, b, limit, want, ok)
			}
			product := new(big.Int).Mul(number(a), number(b))
			for _, limit := range limitsAround(product) {
				want, ok := atMost(product, limit)
				checkMul(t, a, b, limit, want, ok)
			}
		}
	}
}

// P3.2: literal totals: the chapter's example, a data block of layer 14, and
// one pair alone.
func TestTotalKnown(t *testing.T) {
	counts, widths := []uint64{2, 3}, []uint64{5, 4}
	checkTotal(t, counts, widths, most, 22, true)
	checkTotal(t, counts, widths, 23, 22, true)
	checkTotal(t, counts, widths, 22, 22, true)
	checkTotal(t, counts, widths, 21, 0, false)
	checkTotal(t, counts, widths, 10, 0, false)
	checkTotal(t, counts, widths, 9, 0, false)
	checkTotal(t, counts, widths, 0, 0, false)

	block := []uint64{2, 2, 1, 4, 0, 0, 0}
	checkTotal(t, block, []uint64{4, 1, 6, 1, 8, 1, 1}, 20, 20, true)
	checkTotal(t, block, []uint64{4, 1, 6, 1, 8, 1, 1}, 19, 0, false)

	checkTotal(t, []uint64{7}, []uint64{6}, 42, 42, true)
	checkTotal(t, []uint64{7}, []uint64{6}, 41, 0, false)
}

// P3.2: the sum of no pairs is 0, which no limit excludes.
func TestTotalOfNothing(t *testing.T) {
	some := []uint64{most, most}
	for _, none := range [][]uint64{nil, {}, some[:0]} {
		for _, limit := range []uint64{0, 1, most} {
			checkTotal(t, none, none, limit, 0, true)
			checkTotal(t, none, nil, limit, 0, true)
			checkTotal(t, none, some, limit, 0, true)
			checkTotal(t, some, none, limit, 0, true)
		}
	}
}

// P3.2: elements behind the end of the shorter slice do not count, however
// large they are, nor do those in the unused capacity.
func TestTotalOfDifferentLengths(t *testing.T) {
	short := []uint64{2, 3}
	for _, long := range [][]uint64{{5, 4, 0}, {5, 4, 1}, {5, 4, most, most, most}} {
		checkTotal(t, short, long, 22, 22, true)
		checkTotal(t, long, short, 22, 22, true)
		checkTotal(t, short, long, 21, 0, false)
		checkTotal(t, long, short, 21, 0, false)
		checkTotal(t, short, long, most, 22, true)
		checkTotal(t, long, short, most, 22, true)
		checkTotal(t, long[:1], short, 10, 10, true)
		checkTotal(t, short[:1], long, 10, 10, true)
	}
}

// P3.2: the limit is exceeded by the first, a middle or the last pair: by one,
// by much, at 2^64, and by a product that is itself at least 2^64.
func TestTotalExceedsAtEachPair(t *testing.T) {
	for pairs := 1; pairs <= 7; pairs++ {
		for bad := range pairs {
			for _, x := range []struct{ count, width, limit uint64 }{
				{101, 1, 100}, {51, 2, 101}, {most, 1, 100}, {1, most, most - 1},
				{1 << 32, 1 << 32, most}, {1 << 63, 2, 0}, {1 << 63, 2, most}, {most, most, most}, {most, most, 1},
			} {
				counts, widths := make([]uint64, pairs), slices.Repeat([]uint64{8}, pairs)
				counts[bad], widths[bad] = x.count, x.width
				checkTotal(t, counts, widths, x.limit, 0, false)
				checkTotal(t, widths, counts, x.limit, 0, false)
			}
		}
	}
}

// P3.2: ordinary pairs make up the limit exactly; one more anywhere exceeds
// it.
func TestTotalOneAboveAtEachPair(t *testing.T) {
	counts, widths := []uint64{4, 0, 3, 9, 1, 2}, []uint64{8, 5, 6, 1, 12, 1}
	checkTotal(t, counts, widths, 73, 73, true)
	for i := range counts {
		more := slices.Clone(counts)
		more[i]++
		checkTotal(t, more, widths, 73, 0, false)
		checkTotal(t, more, widths, 73+widths[i]-1, 0, false)
		checkTotal(t, more, widths, 73+widths[i], 73+widths[i], true)
	}
}

// P3.2, P3.3: products that are below 2^64 each, but whose sum reaches 2^64
// and would wrap, once or twice, to a number that every limit allows.
func TestTotalDoesNotWrap(t *testing.T) {
	for _, limit := range []uint64{0, 1, 1 << 32, 1 << 63, most - 1, most} {
		checkTotal(t, []uint64{1 << 31, 1 << 63}, []uint64{1 << 32, 1}, limit, 0, false)
		checkTotal(t, []uint64{most, 1}, []uint64{1, 1}, limit, 0, false)
		checkTotal(t, []uint64{1, most}, []uint64{1, 1}, limit, 0, false)
		checkTotal(t, []uint64{most, 0, 1}, []uint64{1, most, 1}, limit, 0, false)
		checkTotal(t, []uint64{1 << 32, 1, 0}, []uint64{1 << 32, 0, 9}, limit, 0, false)
		checkTotal(t, slices.Repeat([]uint64{1 << 31}, 4), slices.Repeat([]uint64{1 << 32}, 4), limit, 0, false)
	}
	checkTotal(t, []uint64{1 << 31, 1<<63 - 1}, []uint64{1 << 32, 1}, most, most, true)
	checkTotal(t, []uint64{1 << 31, 1<<63 - 1}, []uint64{1 << 32, 1}, most-1, 0, false)
	checkTotal(t, []uint64{0, most, 0}, []uint64{most, 1, most}, most, most, true)
	checkTotal(t, []uint64{0, most, 0}, []uint64{most, 0, most}, 0, 0, true)
}

// P3.2: lists of many lengths, made of all values in turn, with limits around
// the exact total.
func TestTotalIsExact(t *testing.T) {
	small := []uint64{0, 1, 2, 3, 6, 8, 12, 255, 65537, 1<<29 + 3}
	for _, list := range [][]uint64{values(), small} {
		for start := range list {
			for step := 1; step <= 5; step++ {
				for size := 1; size <= 8; size++ {
					var counts, widths []uint64
					for i := range size {
						counts = append(counts, list[(start+i*step)%len(list)])
						widths = append(widths, small[(start*step+i)%len(small)])
					}
					exact := exactTotal(counts, widths)
					for _, limit := range limitsAround(exact) {
						want, ok := atMost(exact, limit)
						checkTotal(t, counts, widths, limit, want, ok)
						checkTotal(t, widths, counts, limit, want, ok)
					}
				}
			}
		}
	}
}

// P3.3: what succeeds with one limit succeeds with every greater one, and with
// the same result.
func TestGreaterLimitsKeepResults(t *testing.T) {
	limits := values()
	pairs := [][2]uint64{{0, 0}, {2, 3}, {1000003, 44}, {1 << 32, 1<<32 - 1}, {1 << 32, 1 << 32}, {most, 1}, {1 << 63, 2}, {most, most}}
	for _, x := range pairs {
		a, b := x[0], x[1]
		for _, f := range []func(limit uint64) (uint64, bool){
			func(limit uint64) (uint64, bool) { return sizes.Add(a, b, limit) },
			func(limit uint64) (uint64, bool) { return sizes.Mul(a, b, limit) },
			func(limit uint64) (uint64, bool) { return sizes.Total([]uint64{a, b}, []uint64{1, 1}, limit) },
			func(limit uint64) (uint64, bool) { return sizes.Total([]uint64{3, a, 5}, []uint64{7, b, 1}, limit) },
		} {
			var first uint64
			succeeded := false
			for _, limit := range limits {
				v, ok := f(limit)
				if succeeded && (!ok || v != first) || !ok && v != 0 || ok && v > limit {
					t.Errorf("a = %#x, b = %#x, limit %#x: %#x, %v after %#x, %v", a, b, limit, v, ok, first, succeeded)
				}
				first, succeeded = v, ok
			}
		}
	}
}

// P3.4: Total writes neither to its slices nor to the unused capacity behind
// them, whether it succeeds or fails.
func TestArgumentsStay(t *testing.T) {
	counts, widths := []uint64{2, 3, most, 7, 9}, []uint64{5, 4, 2, 8, 1}
	countsBefore, widthsBefore := slices.Clone(counts), slices.Clone(widths)
	for n := range len(counts) + 1 {
		for m := range len(widths) + 1 {
			for _, limit := range []uint64{0, 10, 22, most} {
				sizes.Total(counts[:n], widths[:m], limit)
				sizes.Total(widths[:m], counts[:n], limit)
			}
		}
	}
	if !slices.Equal(counts, countsBefore) || !slices.Equal(widths, widthsBefore) {
		t.Errorf("the arguments became %d and %d", counts, widths)
	}
}

// P3.4: one slice may serve as both arguments.
func TestTotalOfOneSliceTwice(t *testing.T) {
	list := []uint64{1, 2, 3, 4}
	checkTotal(t, list, list, 30, 30, true)
	checkTotal(t, list, list, 29, 0, false)
	if !slices.Equal(list, []uint64{1, 2, 3, 4}) {
		t.Errorf("the argument became %d", list)
	}
}
