package lookup_test

import (
	"bytes"
	"math"
	"math/rand"
	"reflect"
	"slices"
	"strings"
	"testing"

	"zoneinfo/api"
	"zoneinfo/legacy"
	"zoneinfo/lookup"
	"zoneinfo/validate"
)

// The limits of times and offsets of 4 and 8 bytes.
const (
	min4 = math.MinInt32
	max4 = math.MaxInt32
	min8 = math.MinInt64
	max8 = math.MaxInt64
)

// result is a Result that is defined.
func result(offset int, isDst bool, name string) api.Result {
	return api.Result{Defined: true, Offset: offset, Dst: isDst, Name: name}
}

// named is a block without transitions that has these types and this table.
func named(table string, types ...api.Type) api.Block {
	return api.Block{Types: types, Chars: []byte(table)}
}

// clone copies all lists of b.
func clone(b api.Block) api.Block {
	return api.Block{
		Times: slices.Clone(b.Times), Index: slices.Clone(b.Index), Types: slices.Clone(b.Types), Chars: slices.Clone(b.Chars),
		Leaps: slices.Clone(b.Leaps), Std: slices.Clone(b.Std), Ut: slices.Clone(b.Ut),
	}
}

// checkValid: the promises are those for valid blocks, so the tests use such.
func checkValid(t *testing.T, b api.Block) {
	t.Helper()
	if why := validate.Block(b, 4, 8); why != api.OK {
		t.Fatalf("%v has error %d", b, why)
	}
}

func checkRank(t *testing.T, times []int64, at int64, want int) {
	t.Helper()
	if got := lookup.Rank(times, at); got != want {
		t.Errorf("Rank(%v, %d) = %d, want %d", times, at, got, want)
	}
}

func checkType(t *testing.T, b api.Block, i int, want api.Result) {
	t.Helper()
	if got := lookup.TypeResult(b, i); got != want {
		t.Errorf("TypeResult(%v, %d) = %+v, want %+v", b, i, got, want)
	}
}

func checkState(t *testing.T, b api.Block, k int, want api.Result) {
	t.Helper()
	if got := lookup.State(b, k); got != want {
		t.Errorf("State(%v, %d) = %+v, want %+v", b, k, got, want)
	}
}

// checkSame checks both orders.
func checkSame(t *testing.T, b api.Block, i, k int, want bool) {
	t.Helper()
	if got := lookup.Same(b, i, k); got != want {
		t.Errorf("Same(%v, %d, %d) = %v, want %v", b, i, k, got, want)
	}
	if got := lookup.Same(b, k, i); got != want {
		t.Errorf("Same(%v, %d, %d) = %v, want %v", b, k, i, got, want)
	}
}

// count takes the times one by one.
func count(times []int64, at int64) int {
	n := 0
	for _, time := range times {
		if time <= at {
			n++
		}
	}
	return n
}

// around returns the times at which a rank in the list could change, their
// neighbours, and the ends of all times.
func around(times []int64) []int64 {
	asked := []int64{min8, min8 + 1, min4 - 1, min4, -1, 0, 1, max4, max4 + 1, max8 - 1, max8}
	for _, time := range times {
		asked = append(asked, time)
		if time > min8 {
			asked = append(asked, time-1)
		}
		if time < max8 {
			asked = append(asked, time+1)
		}
	}
	return asked
}

// checkRanks asks for every time around those of the list.
func checkRanks(t *testing.T, times []int64) {
	t.Helper()
	for _, at := range around(times) {
		checkRank(t, times, at, count(times, at))
	}
}

// P23.1: the chapter's example.
func TestExample(t *testing.T) {
	times := []int64{10, 20}
	checkRank(t, times, 9, 0)
	checkRank(t, times, 10, 1)
	checkRank(t, times, 20, 2)
}

// P23.1: literal ranks in lists of few times, the ends of all times among them.
func TestRank(t *testing.T) {
	for _, x := range []struct {
		times []int64
		at    int64
		want  int
	}{
		{nil, min8, 0}, {nil, 0, 0}, {nil, max8, 0},
		{[]int64{}, min8, 0}, {[]int64{}, 0, 0}, {[]int64{}, max8, 0},
		{[]int64{5}, min8, 0}, {[]int64{5}, 4, 0}, {[]int64{5}, 5, 1}, {[]int64{5}, 6, 1}, {[]int64{5}, max8, 1},
		{[]int64{-5}, min8, 0}, {[]int64{-5}, -6, 0}, {[]int64{-5}, -5, 1}, {[]int64{-5}, -4, 1}, {[]int64{-5}, 5, 1},
		{[]int64{min8}, min8, 1}, {[]int64{min8}, min8 + 1, 1}, {[]int64{min8}, 0, 1}, {[]int64{min8}, max8, 1},
		{[]int64{max8}, min8, 0}, {[]int64{max8}, 0, 0}, {[]int64{max8}, max8 - 1, 0}, {[]int64{max8}, max8, 1},
		{[]int64{10, 20}, min8, 0}, {[]int64{10, 20}, 11, 1}, {[]int64{10, 20}, 19, 1}, {[]int64{10, 20}, 21, 2}, {[]int64{10, 20}, max8, 2},
		{[]int64{10, 11}, 9, 0}, {[]int64{10, 11}, 10, 1}, {[]int64{10, 11}, 11, 2}, {[]int64{10, 11}, 12, 2},
		{[]int64{min8, max8}, min8, 1}, {[]int64{min8, max8}, min8 + 1, 1}, {[]int64{min8, max8}, -1, 1},
		{[]int64{min8, max8}, 0, 1}, {[]int64{min8, max8}, max8 - 1, 1}, {[]int64{min8, max8}, max8, 2},
		{[]int64{min8, 0, max8}, min8, 1}, {[]int64{min8, 0, max8}, -1, 1}, {[]int64{min8, 0, max8}, 0, 2},
		{[]int64{min8, 0, max8}, max8 - 1, 2}, {[]int64{min8, 0, max8}, max8, 3},
		{[]int64{min8, min8 + 1}, min8, 1}, {[]int64{min8, min8 + 1}, min8 + 1, 2}, {[]int64{min8, min8 + 1}, min8 + 2, 2},
		{[]int64{max8 - 1, max8}, max8 - 2, 0}, {[]int64{max8 - 1, max8}, max8 - 1, 1}, {[]int64{max8 - 1, max8}, max8, 2},
		{[]int64{-1 << 40, -1 << 31, 0, 1 << 31, 1 << 40}, -1<<31 - 1, 1}, {[]int64{-1 << 40, -1 << 31, 0, 1 << 31, 1 << 40}, 1 << 31, 4},
		{[]int64{-1 << 32, 1 << 32}, 0, 1}, {[]int64{-1<<32 + 1, 1<<32 + 1}, 2, 1},
	} {
		checkRank(t, x.times, x.at, x.want)
	}
}

// P23.1: lists of every length up to 300, with gaps of three and of one second,
// before, around and after time 0.
func TestRankOfAllLengths(t *testing.T) {
	for n := range 300 {
		for _, gap := range []int64{1, 3} {
			for _, first := range []int64{-1000, -int64(n), 0, 7, min8, max8 - 3*300} {
				times := make([]int64, n)
				for i := range times {
					times[i] = first + gap*int64(i)
				}
				checkRanks(t, times)
			}
		}
	}
}

// P23.1: all lists that have some of ten times, asked for each of the ten.
func TestRankOfSubsets(t *testing.T) {
	all := []int64{min8, min8 + 1, min4, -1, 0, 1, 2, max4, max8 - 1, max8}
	for set := range 1 << len(all) {
		var times []int64
		for i, time := range all {
			if set>>i&1 == 1 {
				times = append(times, time)
			}
		}
		checkRanks(t, times)
		for _, at := range all {
			checkRank(t, times, at, count(times, at))
		}
	}
}

// randomTimes makes an ascending list.
func randomTimes(random *rand.Rand, n int) []int64 {
	times := make([]int64, n)
	for i := range times {
		times[i] = int64(random.Uint64()) >> random.Intn(60)
	}
	slices.Sort(times)
	return slices.Compact(times)
}

// P23.1: random lists, and random times as well as those around theirs.
func TestRankOfRandomTimes(t *testing.T) {
	random := rand.New(rand.NewSource(23))
	for range 3000 {
		times := randomTimes(random, random.Intn(50))
		checkRanks(t, times)
		for range 20 {
			at := int64(random.Uint64()) >> random.Intn(60)
			checkRank(t, times, at, count(times, at))
		}
		if t.Failed() {
			return
		}
	}
}

// P23.1: a list of many times, in which each place is found.
func TestRankOfManyTimes(t *testing.T) {
	const n = 1 << 20
	times := make([]int64, n)
	for i := range times {
		times[i] = 10*int64(i) - 5*n
	}
	for i, time := range times {
		before, at, behind := lookup.Rank(times, time-1), lookup.Rank(times, time), lookup.Rank(times, time+9)
		if before != i || at != i+1 || behind != i+1 {
			t.Fatalf("around time %d the ranks are %d, %d and %d", i, before, at, behind)
		}
	}
	checkRank(t, times, min8, 0)
	checkRank(t, times, max8, n)
}

// P23.2: offsets of both signs up to the limits, with and without daylight
// saving time.
func TestTypeResult(t *testing.T) {
	for _, offset := range []int{0, 1, -1, 3600, -3600, 45296, -45296, 65535, 65536, -65536, 1 << 30, -1 << 30, max4, min4 + 1} {
		for _, isDst := range []bool{false, true} {
			b := named("LMT\x00EST\x00", api.Type{Offset: 77, Dst: !isDst}, api.Type{Offset: int32(offset), Dst: isDst, Desig: 4})
			checkValid(t, b)
			checkType(t, b, 0, result(77, !isDst, "LMT"))
			checkType(t, b, 1, result(offset, isDst, "EST"))
		}
	}
}

// P23.2: every index of a table, also within a name, at a NUL and at the end of
// the table.
func TestDesignations(t *testing.T) {
	const table = "LMT\x00AHST\x00\x00+05\x00-00\x00A-00\x00+00-0\x00"
	for i := range len(table) {
		want, _, _ := strings.Cut(table[i:], "\x00")
		for _, x := range []api.Type{{Offset: -36000}, {Offset: 36000, Dst: true}, {Dst: true}} {
			x.Desig = uint8(i)
			b := named(table, x)
			checkValid(t, b)
			checkType(t, b, 0, result(int(x.Offset), x.Dst, want))
		}
	}
	for i, want := range []string{"AHST", "HST", "ST", "T", ""} {
		checkType(t, named(table, api.Type{Offset: -36000, Desig: uint8(4 + i)}), 0, result(-36000, false, want))
	}
}

// P23.2: the smallest table, and names around the largest designation index.
func TestDesignationsAtEnds(t *testing.T) {
	checkType(t, named("\x00", api.Type{}), 0, result(0, false, ""))
	checkType(t, named("A\x00", api.Type{Desig: 1}), 0, result(0, false, ""))
	checkType(t, named("A\x00", api.Type{Offset: 5, Dst: true, Desig: 1}), 0, result(5, true, ""))
	long := strings.Repeat("A", 254) + "\x00"
	for _, x := range []struct {
		table string
		want  string
	}{{long + "\x00", ""}, {long + "UTC\x00", "UTC"}, {strings.Repeat("A", 254) + "BCD\x00", "CD"}, {strings.Repeat("B", 1000) + "\x00", strings.Repeat("B", 745)}} {
		b := named(x.table, api.Type{Desig: 255})
		checkValid(t, b)
		checkType(t, b, 0, result(0, false, x.want))
	}
}

// P23.2: placeholders, wherever their designation stands, have the zero result.
func TestPlaceholders(t *testing.T) {
	for _, x := range []struct {
		table string
		desig uint8
	}{{"-00\x00", 0}, {"LMT\x00-00\x00", 4}, {"LMT\x00-00\x00EST\x00", 4}, {"A-00\x00", 1}, {"\x00-00\x00", 1}, {"-00-00\x00", 3}, {strings.Repeat("\x00", 255) + "-00\x00", 255}} {
		b := named(x.table, api.Type{Offset: 1}, api.Type{Desig: x.desig})
		checkValid(t, b)
		checkType(t, b, 1, api.Result{})
	}
}

// P23.2: types that differ from a placeholder in one field each.
func TestAlmostPlaceholders(t *testing.T) {
	for _, offset := range []int{1, -1, 256, 65536, 1 << 24, max4, min4 + 1} {
		checkType(t, named("-00\x00", api.Type{Offset: int32(offset)}), 0, result(offset, false, "-00"))
		checkType(t, named("-00\x00", api.Type{Offset: int32(offset), Dst: true}), 0, result(offset, true, "-00"))
	}
	checkType(t, named("-00\x00", api.Type{Dst: true}), 0, result(0, true, "-00"))
	for _, name := range []string{"", "-", "-0", "00", "0", "+00", "-01", "-10", "-000", "--00", "A-00", "-00A", "-00-00", "UTC", "LMT"} {
		checkType(t, named(name+"\x00", api.Type{}), 0, result(0, false, name))
	}
	checkType(t, named("-00\x00", api.Type{Desig: 1}), 0, result(0, false, "00"))
	checkType(t, named("-00\x00", api.Type{Desig: 3}), 0, result(0, false, ""))
}

// P23.2: every one of many types, also those that no transition can lead to.
func TestTypeResultOfAllTypes(t *testing.T) {
	b := named("LMT\x00-00\x00EDT\x00")
	var want []api.Result
	for i := range 600 {
		x := api.Type{Offset: int32(i - 300), Dst: i%2 == 1, Desig: uint8(i % 12)}
		b.Types = append(b.Types, x)
		name, _, _ := strings.Cut("LMT\x00-00\x00EDT\x00"[i%12:], "\x00")
		want = append(want, result(i-300, i%2 == 1, name))
	}
	checkValid(t, b)
	for i := range b.Types {
		checkType(t, b, i, want[i])
	}
	b.Types[299].Offset, b.Types[299].Dst, b.Types[299].Desig = 0, false, 4
	checkType(t, b, 299, api.Result{})
}

// zones is a block whose first transition leads to another type than type 0, and
// which has a placeholder.
func zones() api.Block {
	return api.Block{
		Times: []int64{min8, -1 << 31, 0, 1000, 1 << 40, max8},
		Index: []uint8{2, 1, 3, 1, 0, 2},
		Types: []api.Type{{Offset: -17762}, {Offset: -18000, Desig: 4}, {Offset: -14400, Dst: true, Desig: 8}, {Desig: 12}},
		Chars: []byte("LMT\x00EST\x00EDT\x00-00\x00"),
		Leaps: []api.Leap{{At: 5, Corr: 1}},
		Std:   []bool{true, false, true, false},
		Ut:    []bool{true, false, false, false},
	}
}

// P23.2: each state of a block.
func TestState(t *testing.T) {
	lmt, est, edt := result(-17762, false, "LMT"), result(-18000, false, "EST"), result(-14400, true, "EDT")
	b := zones()
	checkValid(t, b)
	for k, want := range []api.Result{lmt, edt, est, {}, est, lmt, edt} {
		checkState(t, b, k, want)
	}
}

// P23.2: the state before all transitions is that of type 0, whether a
// transition leads to it or not.
func TestFirstState(t *testing.T) {
	for first := range 4 {
		for n := range 4 {
			b := zones()
			b.Times, b.Index = b.Times[:n], b.Index[:n]
			b.Types[0], b.Types[first] = b.Types[first], b.Types[0]
			want := []api.Result{result(-17762, false, "LMT"), result(-18000, false, "EST"), result(-14400, true, "EDT"), {}}[first]
			checkState(t, b, 0, want)
		}
	}
}

// P23.2: blocks without transitions and with one.
func TestStateOfFew(t *testing.T) {
	b := named("A\x00B\x00-00\x00", api.Type{Offset: 1}, api.Type{Offset: 2, Desig: 2}, api.Type{Desig: 4})
	checkState(t, b, 0, result(1, false, "A"))
	b.Times = []int64{0}
	for i, want := range []api.Result{result(1, false, "A"), result(2, false, "B"), {}} {
		b.Index = []uint8{uint8(i)}
		checkState(t, b, 0, result(1, false, "A"))
		checkState(t, b, 1, want)
	}
	b.Types[0], b.Types[2] = b.Types[2], b.Types[0]
	for i, want := range []api.Result{{}, result(2, false, "B"), result(1, false, "A")} {
		b.Index[0] = uint8(i)
		checkState(t, b, 0, api.Result{})
		checkState(t, b, 1, want)
	}
}

// many returns a block of n transitions, three seconds apart, which lead to 256
// types in an order that is not theirs.
func many(n int) api.Block {
	b := api.Block{Chars: []byte("LMT\x00-00\x00+05\x00")}
	for i := range 256 {
		x := api.Type{Offset: int32(100 * (i - 128)), Dst: i%3 == 0, Desig: uint8(i % 12)}
		if i%16 == 5 {
			x = api.Type{Desig: 4}
		}
		b.Types = append(b.Types, x)
	}
	for i := range n {
		b.Times, b.Index = append(b.Times, int64(3*(i-n/2))), append(b.Index, uint8(255-7*i))
	}
	return b
}

// resultOf is the result of a type as the definition puts it.
func resultOf(b api.Block, i int) api.Result {
	x := b.Types[i]
	name, _, _ := bytes.Cut(b.Chars[x.Desig:], []byte{0})
	if x.Offset == 0 && !x.Dst && string(name) == "-00" {
		return api.Result{}
	}
	return result(int(x.Offset), x.Dst, string(name))
}

// checkStates checks each state, and the one at each time at which another could
// begin.
func checkStates(t *testing.T, b api.Block) {
	t.Helper()
	checkValid(t, b)
	for k := range len(b.Times) + 1 {
		want := resultOf(b, 0)
		if k > 0 {
			want = resultOf(b, int(b.Index[k-1]))
		}
		checkState(t, b, k, want)
	}
	for _, at := range around(b.Times) {
		inEffect := 0
		for i, time := range b.Times {
			if time <= at {
				inEffect = int(b.Index[i])
			}
		}
		checkStateAt(t, b, at, resultOf(b, inEffect))
	}
}

// checkStateAt checks P23.3, also by layer 22's type in effect.
func checkStateAt(t *testing.T, b api.Block, at int64, want api.Result) {
	t.Helper()
	k := lookup.Rank(b.Times, at)
	if k < 0 || k > len(b.Times) {
		t.Fatalf("Rank(%v, %d) = %d", b.Times, at, k)
	}
	if got := lookup.State(b, k); got != want {
		t.Errorf("at %d, %v %v has the state %+v, want %+v", at, b.Times, b.Index, got, want)
	}
	if got := lookup.TypeResult(b, legacy.InEffect(b, at)); got != want {
		t.Errorf("at %d, the type in effect of %v %v has the result %+v, want %+v", at, b.Times, b.Index, got, want)
	}
}

// P23.3: the state at literal times.
func TestStateAtTimes(t *testing.T) {
	lmt, est, edt := result(-17762, false, "LMT"), result(-18000, false, "EST"), result(-14400, true, "EDT")
	b := zones()
	for _, x := range []struct {
		at   int64
		want api.Result
	}{
		{min8, edt}, {min8 + 1, edt}, {-1<<31 - 1, edt}, {-1 << 31, est}, {-1, est}, {0, api.Result{}}, {999, api.Result{}},
		{1000, est}, {1<<40 - 1, est}, {1 << 40, lmt}, {max8 - 1, lmt}, {max8, edt},
	} {
		checkStateAt(t, b, x.at, x.want)
	}
	b.Times, b.Index = b.Times[1:], b.Index[1:]
	checkStateAt(t, b, min8, lmt)
	checkStateAt(t, b, -1<<31-1, lmt)
	checkStateAt(t, b, -1<<31, est)
}

// P23.2, P23.3: blocks with none and with up to many transitions.
func TestStateOfMany(t *testing.T) {
	for _, n := range []int{0, 1, 2, 3, 4, 5, 7, 8, 9, 31, 32, 33, 100, 255, 256, 257, 300, 1000} {
		checkStates(t, many(n))
	}
	checkStates(t, zones())
}

// P23.2: types of equal and of different offsets, flags and designations.
func TestSame(t *testing.T) {
	const table = "EST\x00EDT\x00XEST\x00EST\x00-00\x00A-00\x00"
	first := api.Type{Offset: -18000, Desig: 0}
	for _, x := range []struct {
		other api.Type
		want  bool
	}{
		{api.Type{Offset: -18000, Desig: 0}, true},
		{api.Type{Offset: -18000, Desig: 9}, true},
		{api.Type{Offset: -18000, Desig: 13}, true},
		{api.Type{Offset: 18000, Desig: 0}, false},
		{api.Type{Offset: -18001, Desig: 0}, false},
		{api.Type{Offset: -18000 + 1<<16, Desig: 0}, false},
		{api.Type{Offset: -18000 + 1<<8, Desig: 0}, false},
		{api.Type{Offset: 0, Desig: 0}, false},
		{api.Type{Offset: -18000, Dst: true, Desig: 0}, false},
		{api.Type{Offset: -18000, Dst: true, Desig: 13}, false},
		{api.Type{Offset: -18000, Desig: 1}, false},
		{api.Type{Offset: -18000, Desig: 3}, false},
		{api.Type{Offset: -18000, Desig: 4}, false},
		{api.Type{Offset: -18000, Desig: 8}, false},
		{api.Type{Offset: -18000, Desig: 10}, false},
		{api.Type{Offset: 0, Dst: true, Desig: 4}, false},
	} {
		b := named(table, first, x.other)
		checkValid(t, b)
		checkSame(t, b, 0, 1, x.want)
		checkSame(t, b, 0, 0, true)
		checkSame(t, b, 1, 1, true)
	}
}

// P23.2: a placeholder is as equal to another one, and as different from other
// types, as types are that stand for known local time.
func TestSameOfPlaceholders(t *testing.T) {
	b := named("-00\x00A-00\x00UTC\x00\x00", api.Type{}, api.Type{}, api.Type{Desig: 5}, api.Type{Offset: 1}, api.Type{Dst: true},
		api.Type{Desig: 9}, api.Type{Desig: 13}, api.Type{Desig: 3}, api.Type{Desig: 4}, api.Type{Desig: 1})
	checkValid(t, b)
	for i, want := range []bool{true, true, true, false, false, false, false, false, false, false} {
		for k := range 3 {
			checkSame(t, b, k, i, want)
		}
	}
	checkSame(t, b, 6, 7, true)
	checkSame(t, b, 5, 6, false)
}

// P23.2: all pairs of types of few offsets, flags and designations, which are the
// same where their values are.
func TestSameOfPairs(t *testing.T) {
	const table = "-00\x00ST\x00EST\x00ST-00\x00\x00"
	b := named(table)
	for _, offset := range []int32{0, 1, -1, max4, min4 + 1} {
		for i := range 2 * len(table) {
			b.Types = append(b.Types, api.Type{Offset: offset, Dst: i%2 == 1, Desig: uint8(i / 2)})
		}
	}
	checkValid(t, b)
	for i, x := range b.Types {
		nameX, _, _ := strings.Cut(table[x.Desig:], "\x00")
		for k, y := range b.Types {
			nameY, _, _ := strings.Cut(table[y.Desig:], "\x00")
			checkSame(t, b, i, k, x.Offset == y.Offset && x.Dst == y.Dst && nameX == nameY)
		}
	}
}

// P23.2: transitions and indicators don't make types different, and neither does
// the place of the types.
func TestSameOfOthers(t *testing.T) {
	b := zones()
	b.Types = append(b.Types, b.Types...)
	b.Std = []bool{true, true, true, true, false, false, false, false}
	b.Ut = []bool{true, true, true, true, false, false, false, false}
	checkValid(t, b)
	for i := range 8 {
		for k := range 8 {
			checkSame(t, b, i, k, i%4 == k%4)
		}
	}
	many := named("A\x00", make([]api.Type, 700)...)
	many.Types[300].Offset, many.Types[699].Offset = 1, 1
	checkSame(t, many, 300, 699, true)
	checkSame(t, many, 44, 300, false)
	checkSame(t, many, 44, 698, true)
	checkSame(t, many, 187, 699, false)
}

// randomBlock makes a block that is valid.
func randomBlock(random *rand.Rand) api.Block {
	b := api.Block{Chars: []byte("LMT\x00-00\x00EST\x00BEST\x00\x00"), Times: randomTimes(random, random.Intn(20))}
	for range 1 + random.Intn(6) {
		b.Types = append(b.Types, api.Type{Offset: int32(random.Intn(2) * -18000), Dst: random.Intn(3) == 0, Desig: uint8([]int{0, 4, 8, 13, random.Intn(18)}[random.Intn(5)])})
	}
	for range b.Times {
		b.Index = append(b.Index, uint8(random.Intn(len(b.Types))))
	}
	return b
}

// P23.1, P23.2, P23.3: random blocks against the definitions.
func TestRandomBlocks(t *testing.T) {
	random := rand.New(rand.NewSource(2323))
	for range 5000 {
		b := randomBlock(random)
		checkStates(t, b)
		for i, x := range b.Types {
			checkType(t, b, i, resultOf(b, i))
			for k, y := range b.Types {
				nameX, _, _ := bytes.Cut(b.Chars[x.Desig:], []byte{0})
				nameY, _, _ := bytes.Cut(b.Chars[y.Desig:], []byte{0})
				checkSame(t, b, i, k, x.Offset == y.Offset && x.Dst == y.Dst && bytes.Equal(nameX, nameY))
			}
		}
		if t.Failed() {
			return
		}
	}
}

// spare returns a copy of list that has unused capacity, all of which holds x.
func spare[T any](list []T, x T) []T {
	room := make([]T, len(list)+3)
	for i := copy(room, list); i < len(room); i++ {
		room[i] = x
	}
	return room[:len(list)]
}

// spacious is zones with unused capacity in all lists.
func spacious() api.Block {
	b := zones()
	return api.Block{
		Times: spare(b.Times, 77), Index: spare(b.Index, 3), Types: spare(b.Types, api.Type{Offset: 77}), Chars: spare(b.Chars, 'X'),
		Leaps: spare(b.Leaps, api.Leap{At: 77}), Std: spare(b.Std, true), Ut: spare(b.Ut, true),
	}
}

// roomy returns the lists up to their capacities.
func roomy(b api.Block) api.Block {
	return api.Block{
		Times: b.Times[:cap(b.Times)], Index: b.Index[:cap(b.Index)], Types: b.Types[:cap(b.Types)], Chars: b.Chars[:cap(b.Chars)],
		Leaps: b.Leaps[:cap(b.Leaps)], Std: b.Std[:cap(b.Std)], Ut: b.Ut[:cap(b.Ut)],
	}
}

// P23.1, P23.2: arguments and the unused capacity behind them stay as they are.
func TestArgumentsStay(t *testing.T) {
	b := spacious()
	for _, at := range around(b.Times) {
		lookup.State(b, lookup.Rank(b.Times, at))
	}
	for i := range b.Types {
		lookup.TypeResult(b, i)
		for k := range b.Types {
			lookup.Same(b, i, k)
		}
	}
	if want := spacious(); !reflect.DeepEqual(roomy(b), roomy(want)) {
		t.Errorf("%v has become %v", roomy(want), roomy(b))
	}
}

// P23.2: results don't change with the argument.
func TestNoSharedMemory(t *testing.T) {
	b := zones()
	one, other := lookup.TypeResult(b, 1), lookup.State(b, 1)
	for i := range b.Chars {
		b.Chars[i] = 'X'
	}
	clear(b.Types)
	clear(b.Index)
	if one != result(-18000, false, "EST") || other != result(-14400, true, "EDT") {
		t.Errorf("the results have become %+v and %+v", one, other)
	}
}

// P23.1, P23.2: a call has the same result after calls with other arguments.
func TestCallsAreIndependent(t *testing.T) {
	for range 3 {
		checkRank(t, []int64{10, 20}, 15, 1)
		checkRank(t, []int64{10, 12, 14}, 15, 3)
		checkType(t, zones(), 1, result(-18000, false, "EST"))
		checkType(t, named("A\x00B\x00", api.Type{}, api.Type{Offset: 5, Desig: 2}), 1, result(5, false, "B"))
		checkState(t, zones(), 1, result(-14400, true, "EDT"))
		checkState(t, many(2), 1, resultOf(many(2), 255))
		checkSame(t, zones(), 1, 2, false)
		checkSame(t, named("A\x00", make([]api.Type, 3)...), 1, 2, true)
	}
}

// P23.1, P23.2: arguments for which the chapter promises nothing don't make any
// call panic.
func TestOtherArgumentsEnd(t *testing.T) {
	for _, times := range [][]int64{{3, 2, 1}, {5, 5, 5}, {0, max8, min8, 7}, {max8, min8}} {
		for _, at := range around(times) {
			lookup.Rank(times, at)
		}
	}
	for _, b := range []api.Block{
		{},
		{Types: make([]api.Type, 2)},
		{Chars: []byte("A\x00")},
		{Types: []api.Type{{Desig: 1}, {Desig: 255}}, Chars: []byte("A")},
		{Times: []int64{1, 2, 3}, Index: []uint8{1}, Types: make([]api.Type, 2), Chars: []byte{0}},
		{Times: []int64{1}, Index: []uint8{1, 2, 255}, Types: make([]api.Type, 2), Chars: []byte("!\x00")},
		zones(),
	} {
		before := clone(b)
		for _, i := range []int{math.MinInt, -256, -1, 0, 1, 2, 3, 4, 5, 6, 7, 255, 256, math.MaxInt} {
			lookup.TypeResult(b, i)
			lookup.State(b, i)
			lookup.Same(b, i, 0)
			lookup.Same(b, 0, i)
			lookup.Same(b, i, i)
		}
		if !reflect.DeepEqual(b, before) {
			t.Errorf("%v has become %v", before, b)
		}
	}
}
