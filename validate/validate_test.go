package validate_test

import (
	"fmt"
	"math"
	"math/rand"
	"regexp"
	"slices"
	"strings"
	"testing"
	"time"

	"zoneinfo/api"
	"zoneinfo/posixtz"
	"zoneinfo/validate"
)

// The limits of times of 4 and 8 bytes.
const (
	min4 = math.MinInt32
	max4 = math.MaxInt32
	min8 = math.MinInt64
	max8 = math.MaxInt64
)

// spacing is the smallest number of seconds between leap second records.
const spacing = 2419199

// least is one of the smallest valid blocks.
func least() api.Block {
	return api.Block{Types: []api.Type{{}}, Chars: []byte{0}}
}

// full is a block with all lists, valid for every version and time size.
func full() api.Block {
	return api.Block{
		Times: []int64{-3000, -2000, 0, 1000, 2000},
		Index: []uint8{1, 0, 1, 2, 0},
		Types: []api.Type{{Offset: -18000, Desig: 0}, {Offset: -14400, Dst: true, Desig: 4}, {Desig: 8}},
		Chars: []byte("EST\x00EDT\x00-00\x00"),
		Leaps: []api.Leap{{At: 78796800, Corr: 1}, {At: 94694401, Corr: 2}, {At: 126230402, Corr: 1}},
		Std:   []bool{true, false, true},
		Ut:    []bool{true, false, false},
	}
}

// newYork is the rule that continues the second block of fullFile.
const newYork = "EST5EDT,M3.2.0,M11.1.0"

// fullFile is valid for versions 2 to 4. The last time of its second block is
// in January.
func fullFile(version int) api.File {
	return api.File{Version: version, V1: full(), V2: full(), Footer: newYork}
}

// old is a valid file of version 1.
func old() api.File { return api.File{Version: 1, V1: full()} }

// cloneBlock has lists of its own.
func cloneBlock(b api.Block) api.Block {
	return api.Block{
		Times: slices.Clone(b.Times), Index: slices.Clone(b.Index), Types: slices.Clone(b.Types), Chars: slices.Clone(b.Chars),
		Leaps: slices.Clone(b.Leaps), Std: slices.Clone(b.Std), Ut: slices.Clone(b.Ut),
	}
}

func checkBlock(t *testing.T, b api.Block, version, size int, want api.Errno) {
	t.Helper()
	if got := validate.Block(b, version, size); got != want {
		t.Errorf("Block(%v, %d, %d) = %d, want %d", b, version, size, got, want)
	}
}

// checkAll checks a block of which neither the version nor the time size
// matters.
func checkAll(t *testing.T, b api.Block, want api.Errno) {
	t.Helper()
	for version := 1; version <= 4; version++ {
		for _, size := range []int{4, 8} {
			checkBlock(t, b, version, size, want)
		}
	}
}

// checkFile checks a file by File alone.
func checkFile(t *testing.T, f api.File, want api.Errno) {
	t.Helper()
	if got := validate.File(f); got != want {
		t.Errorf("File(%+v) = %d, want %d", f, got, want)
	}
}

// checkFooter checks a file that satisfies the rules 1 to 4, so that File has
// the same error.
func checkFooter(t *testing.T, f api.File, want api.Errno, at int) {
	t.Helper()
	if got, gotAt := validate.Footer(f); got != want || gotAt != at {
		t.Errorf("Footer(%+v) = %d, %d, want %d, %d", f, got, gotAt, want, at)
	}
	checkFile(t, f, want)
}

// fault breaks one rule of a full block, in one of its ways.
type fault struct {
	rule  int
	name  string
	apply func(b *api.Block)
	want  api.Errno
}

// countFaults have more or fewer elements than others.
func countFaults() []fault {
	return []fault{
		{1, "fewer indices", func(b *api.Block) { b.Index = b.Index[:len(b.Index)-1] }, api.ErrCount},
		{1, "more indices", func(b *api.Block) { b.Index = append(b.Index, 0) }, api.ErrCount},
		{1, "no index", func(b *api.Block) { b.Index = nil }, api.ErrCount},
		{1, "no time", func(b *api.Block) { b.Times = nil }, api.ErrCount},
		{1, "more times", func(b *api.Block) { b.Times = append(b.Times, 3000) }, api.ErrCount},
		{1, "no type", func(b *api.Block) { b.Types, b.Std, b.Ut = nil, nil, nil }, api.ErrCount},
		{1, "no type but indicators", func(b *api.Block) { b.Types = nil }, api.ErrCount},
		{1, "no designation byte", func(b *api.Block) { b.Chars = nil }, api.ErrCount},
		{1, "fewer standard indicators", func(b *api.Block) { b.Std = b.Std[:2] }, api.ErrCount},
		{1, "one standard indicator", func(b *api.Block) { b.Std = b.Std[:1] }, api.ErrCount},
		{1, "more standard indicators", func(b *api.Block) { b.Std = append(b.Std, true) }, api.ErrCount},
		{1, "fewer UT indicators", func(b *api.Block) { b.Ut = b.Ut[:2] }, api.ErrCount},
		{1, "one UT indicator", func(b *api.Block) { b.Ut = b.Ut[:1] }, api.ErrCount},
		{1, "more UT indicators", func(b *api.Block) { b.Ut = append(b.Ut, false) }, api.ErrCount},
		{1, "more indicators of both kinds", func(b *api.Block) { b.Std, b.Ut = append(b.Std, true), append(b.Ut, false) }, api.ErrCount},
		{1, "fewer indicators of both kinds", func(b *api.Block) { b.Std, b.Ut = b.Std[:2], b.Ut[:2] }, api.ErrCount},
		{1, "indicators for a type more", func(b *api.Block) { b.Types = b.Types[:2]; b.Index[3] = 1 }, api.ErrCount},
	}
}

// rangeFaults have times that need more than 4 bytes, at the first and the last
// place, so that the order stays.
func rangeFaults() []fault {
	return []fault{
		{2, "a time too small", func(b *api.Block) { b.Times[0] = min4 - 1 }, api.ErrArg},
		{2, "a time too large", func(b *api.Block) { b.Times[len(b.Times)-1] = max4 + 1 }, api.ErrArg},
		{2, "the smallest time", func(b *api.Block) { b.Times[0] = min8 }, api.ErrArg},
		{2, "the largest time", func(b *api.Block) { b.Times[len(b.Times)-1] = max8 }, api.ErrArg},
		{2, "a time too large by its high bytes", func(b *api.Block) { b.Times[len(b.Times)-1] = 1<<32 + 2000 }, api.ErrArg},
		{2, "a leap second time too large", func(b *api.Block) { b.Leaps[2].At = max4 + 1 }, api.ErrArg},
		{2, "the largest leap second time", func(b *api.Block) { b.Leaps[2].At = max8 }, api.ErrArg},
		{2, "a leap second time too large by its high bytes", func(b *api.Block) { b.Leaps[2].At += 1 << 32 }, api.ErrArg},
	}
}

// otherFaults are those of the rules 3 to 8, but those of the order.
func otherFaults() []fault {
	return []fault{
		{4, "the index of the number of types", func(b *api.Block) { b.Index[0] = 3 }, api.ErrIndex},
		{4, "that in the middle", func(b *api.Block) { b.Index[2] = 3 }, api.ErrIndex},
		{4, "that at the end", func(b *api.Block) { b.Index[len(b.Index)-1] = 3 }, api.ErrIndex},
		{4, "the largest index", func(b *api.Block) { b.Index[1] = 255 }, api.ErrIndex},
		{5, "the smallest offset first", func(b *api.Block) { b.Types[0].Offset = min4 }, api.ErrOffset},
		{5, "the smallest offset last", func(b *api.Block) { b.Types[2].Offset = min4 }, api.ErrOffset},
		{5, "the designation index of the length", func(b *api.Block) { b.Types[0].Desig = 12 }, api.ErrIndex},
		{5, "that of the last type", func(b *api.Block) { b.Types[2].Desig = 12 }, api.ErrIndex},
		{5, "the largest designation index", func(b *api.Block) { b.Types[1].Desig = 255 }, api.ErrIndex},
		{5, "a designation index before an offset", func(b *api.Block) { b.Types[0].Desig, b.Types[2].Offset = 12, min4 }, api.ErrOffset},
		{6, "no final NUL", func(b *api.Block) { b.Chars[len(b.Chars)-1] = 'x' }, api.ErrDesignation},
		{6, "another byte first", func(b *api.Block) { b.Chars[0] = ' ' }, api.ErrDesignation},
		{6, "another byte in the middle", func(b *api.Block) { b.Chars[5] = '_' }, api.ErrDesignation},
		{6, "a byte beyond ASCII", func(b *api.Block) { b.Chars[1] = 0x80 }, api.ErrDesignation},
		{6, "another byte in place of the NUL", func(b *api.Block) { b.Chars[len(b.Chars)-1] = '\n' }, api.ErrDesignation},
		{7, "records too close", func(b *api.Block) { b.Leaps[1].At = b.Leaps[0].At + spacing - 1 }, api.ErrLeap},
		{7, "records at one time", func(b *api.Block) { b.Leaps[2].At = b.Leaps[1].At }, api.ErrLeap},
		{7, "records descending", func(b *api.Block) { b.Leaps[2].At = 0 }, api.ErrLeap},
		{7, "a negative first record", func(b *api.Block) { b.Leaps[0].At = -1 }, api.ErrLeap},
		{7, "a step of two", func(b *api.Block) { b.Leaps[1].Corr = 3 }, api.ErrLeap},
		{7, "no step before the last record", func(b *api.Block) { b.Leaps[1].Corr = 1 }, api.ErrLeap},
		{8, "a UT indicator alone", func(b *api.Block) { b.Std[0] = false }, api.ErrIndicator},
		{8, "another one", func(b *api.Block) { b.Ut[1] = true }, api.ErrIndicator},
		{8, "the last one", func(b *api.Block) { b.Std[2], b.Ut[2] = false, true }, api.ErrIndicator},
		{8, "UT indicators alone", func(b *api.Block) { b.Std = nil }, api.ErrIndicator},
	}
}

// orderFaults have equal and descending times at the first, a middle and the
// last place.
func orderFaults() []fault {
	var list []fault
	for _, i := range []int{1, 2, 3, 4} {
		for _, less := range []int64{0, 1, 100} {
			list = append(list, fault{3, fmt.Sprintf("time %d less than its predecessor by %d", i, less), func(b *api.Block) {
				b.Times[i] = b.Times[i-1] - less
			}, api.ErrOrder})
		}
	}
	return append(list, fault{3, "all times equal", func(b *api.Block) {
		for i := range b.Times {
			b.Times[i] = 7
		}
	}, api.ErrOrder}, fault{3, "all times descending", func(b *api.Block) { slices.Reverse(b.Times) }, api.ErrOrder})
}

// faults are all of them for blocks with 4-byte times.
func faults() []fault {
	return slices.Concat(countFaults(), rangeFaults(), orderFaults(), otherFaults())
}

// P20.1: the chapter's example.
func TestExample(t *testing.T) {
	checkAll(t, api.Block{}, api.ErrCount)
	checkAll(t, api.Block{Chars: []byte{0}}, api.ErrCount)
}

// P20.1: valid blocks.
func TestValidBlocks(t *testing.T) {
	checkAll(t, least(), api.OK)
	checkAll(t, full(), api.OK)
	for name, change := range map[string]func(b *api.Block){
		"no transitions":         func(b *api.Block) { b.Times, b.Index = nil, nil },
		"one transition":         func(b *api.Block) { b.Times, b.Index = b.Times[:1], b.Index[:1] },
		"no leap seconds":        func(b *api.Block) { b.Leaps = nil },
		"one leap second":        func(b *api.Block) { b.Leaps = []api.Leap{{At: 0, Corr: -1}} },
		"no indicators":          func(b *api.Block) { b.Std, b.Ut = nil, nil },
		"standard ones only":     func(b *api.Block) { b.Ut = nil },
		"UT ones that are clear": func(b *api.Block) { b.Std, b.Ut = nil, make([]bool, 3) },
		"types not in use":       func(b *api.Block) { clear(b.Index) },
		"type 2 only":            func(b *api.Block) { b.Index = []uint8{2, 2, 2, 2, 2} },
		"times one by one":       func(b *api.Block) { b.Times = []int64{-2, -1, 0, 1, 2} },
		"times of 4 bytes":       func(b *api.Block) { b.Times[0], b.Times[4] = min4, max4 },
		"a leap second of 4 bytes": func(b *api.Block) {
			b.Leaps[2].At = max4
		},
		"records just far enough apart": func(b *api.Block) { b.Leaps[1].At = b.Leaps[0].At + spacing },
		"the first record at 0":         func(b *api.Block) { b.Leaps[0].At = 0 },
		"the smallest offset but one":   func(b *api.Block) { b.Types[0].Offset = min4 + 1 },
		"the largest offset":            func(b *api.Block) { b.Types[2].Offset = max4 },
		"the last designation index":    func(b *api.Block) { b.Types[1].Desig = 11 },
		"an index into a name":          func(b *api.Block) { b.Types[1].Desig = 6 },
		"NULs only":                     func(b *api.Block) { clear(b.Chars) },
		"empty names":                   func(b *api.Block) { b.Chars[4], b.Chars[10] = 0, 0 },
		"all kinds of bytes":            func(b *api.Block) { copy(b.Chars, "+-09AZaz") },
		"nothing but types and a NUL":   func(b *api.Block) { *b = least(); b.Types = make([]api.Type, 300) },
		"empty lists": func(b *api.Block) {
			*b = least()
			b.Times, b.Index, b.Leaps, b.Std, b.Ut = []int64{}, []uint8{}, []api.Leap{}, []bool{}, []bool{}
		},
	} {
		b := full()
		change(&b)
		t.Run(name, func(t *testing.T) { checkAll(t, b, api.OK) })
	}
}

// P20.1: 256 types, of which every index is one.
func TestAllIndices(t *testing.T) {
	b := api.Block{Types: make([]api.Type, 256), Chars: make([]byte, 256)}
	for i := range b.Types {
		b.Types[i].Desig = uint8(i)
		b.Times, b.Index = append(b.Times, int64(i)), append(b.Index, uint8(i))
	}
	checkAll(t, b, api.OK)
	b.Types = b.Types[:255]
	checkAll(t, b, api.ErrIndex)
	b.Times, b.Index = b.Times[:255], b.Index[:255]
	checkAll(t, b, api.OK)
	b.Chars = b.Chars[:254]
	checkAll(t, b, api.ErrIndex)
}

// P20.1: each rule violated alone, in each of its ways. Only rule 2 asks for
// the time size.
func TestOneFault(t *testing.T) {
	for _, x := range faults() {
		t.Run(x.name, func(t *testing.T) {
			b := full()
			x.apply(&b)
			if x.rule != 2 {
				checkAll(t, b, x.want)
				return
			}
			for version := 1; version <= 4; version++ {
				checkBlock(t, b, version, 4, x.want)
				checkBlock(t, b, version, 8, api.OK)
			}
		})
	}
}

// both applies two faults to a full block, or tells false if there is nothing
// left for the second one to change.
func both(first, second fault) (b api.Block, ok bool) {
	defer func() {
		if recover() != nil {
			b, ok = api.Block{}, false
		}
	}()
	b = full()
	first.apply(&b)
	second.apply(&b)
	return b, true
}

// P20.1: pairs of rules violated together, where the earlier one determines the
// error. All pairs of rules are met, each by two faults that do not undo each
// other.
func TestTwoFaults(t *testing.T) {
	met := map[[2]int]int{}
	for _, x := range faults() {
		for _, y := range faults() {
			b, ok := both(y, x)
			if !ok || x.rule >= y.rule {
				continue
			}
			for version := 1; version <= 4; version++ {
				checkBlock(t, b, version, 4, blockError(b, version, 4))
				checkBlock(t, b, version, 8, blockError(b, version, 8))
				list := violated(b, version, 4)
				if len(list) > 0 && list[0] == x.rule && slices.Contains(list, y.rule) {
					checkBlock(t, b, version, 4, x.want)
					met[[2]int{x.rule, y.rule}]++
				}
			}
		}
	}
	for first := 1; first <= 8; first++ {
		for second := first + 1; second <= 8; second++ {
			if met[[2]int{first, second}] < 20 {
				t.Errorf("the rules %d and %d are violated together %d times only", first, second, met[[2]int{first, second}])
			}
		}
	}
}

// P20.1: all rules from one on are violated, so that the first one of them
// determines the error.
func TestAllFaultsFromOneOn(t *testing.T) {
	b := full()
	for _, x := range []fault{
		{8, "", func(b *api.Block) { b.Ut[1] = true }, api.ErrIndicator},
		{7, "", func(b *api.Block) { b.Leaps[0].Corr = 5 }, api.ErrLeap},
		{6, "", func(b *api.Block) { b.Chars[0] = '!' }, api.ErrDesignation},
		{5, "", func(b *api.Block) { b.Types[1].Desig = 77 }, api.ErrIndex},
		{5, "", func(b *api.Block) { b.Types[2].Offset = min4 }, api.ErrOffset},
		{4, "", func(b *api.Block) { b.Index[4] = 9 }, api.ErrIndex},
		{3, "", func(b *api.Block) { b.Times[3] = b.Times[2] }, api.ErrOrder},
		{2, "", func(b *api.Block) { b.Times[4] = max4 + 1 }, api.ErrArg},
		{1, "", func(b *api.Block) { b.Std = b.Std[:2] }, api.ErrCount},
	} {
		x.apply(&b)
		for version := 1; version <= 3; version++ {
			checkBlock(t, b, version, 4, x.want)
		}
	}
	checkBlock(t, b, 4, 8, api.ErrCount)
}

// P20.1: the limits of 4-byte times, for transitions and leap seconds. A
// negative leap second time that fits is a matter of rule 7.
func TestLimitsOfTimes(t *testing.T) {
	for _, x := range []struct {
		time       int64
		four       api.Errno
		leap, wide api.Errno // of a leap second at that time, in 4 and 8 bytes
	}{
		{min8, api.ErrArg, api.ErrArg, api.ErrLeap},
		{min4 - 1, api.ErrArg, api.ErrArg, api.ErrLeap},
		{min4, api.OK, api.ErrLeap, api.ErrLeap},
		{-1, api.OK, api.ErrLeap, api.ErrLeap},
		{0, api.OK, api.OK, api.OK},
		{max4, api.OK, api.OK, api.OK},
		{max4 + 1, api.ErrArg, api.ErrArg, api.OK},
		{1 << 32, api.ErrArg, api.ErrArg, api.OK},
		{max8, api.ErrArg, api.ErrArg, api.OK},
	} {
		b := least()
		b.Times, b.Index = []int64{x.time}, []uint8{0}
		l := least()
		l.Leaps = []api.Leap{{At: x.time, Corr: 1}}
		for version := 1; version <= 4; version++ {
			checkBlock(t, b, version, 4, x.four)
			checkBlock(t, b, version, 8, api.OK)
			checkBlock(t, l, version, 4, x.leap)
			checkBlock(t, l, version, 8, x.wide)
		}
	}
}

// P20.1: a time that does not fit at every place among others that do, before
// every other rule but the first.
func TestEveryPlaceOfATime(t *testing.T) {
	for i := range 5 {
		for _, time := range []int64{min4 - 1, max4 + 1} {
			b := full()
			b.Times[i] = time
			checkBlock(t, b, 3, 4, api.ErrArg)
			if isAscending := i == 0 && time < 0 || i == 4 && time > 0; isAscending {
				checkBlock(t, b, 3, 8, api.OK)
			} else {
				checkBlock(t, b, 3, 8, api.ErrOrder)
			}
		}
	}
	for i := range 3 {
		b := full()
		b.Leaps[i].At = max4 + 1
		checkBlock(t, b, 3, 4, api.ErrArg)
		b.Leaps[i].At = min4 - 1
		checkBlock(t, b, 3, 4, api.ErrArg)
		checkBlock(t, b, 3, 8, api.ErrLeap)
	}
}

// P20.1: leap second records that only version 4 allows.
func TestLeapsOfVersion4(t *testing.T) {
	for name, l := range map[string][]api.Leap{
		"another first correction": {{At: 78796800, Corr: 10}, {At: 94694401, Corr: 11}},
		"no first correction":      {{At: 0, Corr: 0}},
		"the smallest correction":  {{At: 5, Corr: min4}},
		"an expiration":            {{At: 78796800, Corr: 1}, {At: 94694401, Corr: 1}},
		"both":                     {{At: 78796800, Corr: -2}, {At: 94694401, Corr: -3}, {At: 126230402, Corr: -3}},
	} {
		t.Run(name, func(t *testing.T) {
			for _, b := range []api.Block{least(), full()} {
				b.Leaps = l
				for _, size := range []int{4, 8} {
					for version := 1; version <= 3; version++ {
						checkBlock(t, b, version, size, api.ErrLeap)
					}
					checkBlock(t, b, 4, size, api.OK)
				}
			}
		})
	}
	b := full()
	b.Leaps = []api.Leap{{At: 0, Corr: 1}, {At: spacing, Corr: 1}, {At: 2 * spacing, Corr: 2}}
	checkAll(t, b, api.ErrLeap)
	b.Ut[1] = true
	checkAll(t, b, api.ErrLeap)
	b.Leaps = b.Leaps[:2]
	checkBlock(t, b, 3, 4, api.ErrLeap)
	checkBlock(t, b, 4, 4, api.ErrIndicator)
}

// designations are the tables that the model accepts.
var designations = regexp.MustCompile(`^[A-Za-z0-9+\-\x00]*\x00$`)

// violated returns all rules that b violates, each as the chapter puts it.
func violated(b api.Block, version, size int) []int {
	fits := func(v int64) bool { return size == 8 || int64(int32(v)) == v }
	isOther := func(n int) bool { return n != 0 && n != len(b.Types) }
	isAlone := func(i int) bool { return b.Ut[i] && (i >= len(b.Std) || !b.Std[i]) }
	areIndicatorsAlone := false
	for i := range b.Ut {
		areIndicatorsAlone = areIndicatorsAlone || isAlone(i)
	}
	var list []int
	for i, isViolated := range []bool{
		len(b.Index) != len(b.Times) || len(b.Types) == 0 || len(b.Chars) == 0 || isOther(len(b.Std)) || isOther(len(b.Ut)),
		slices.ContainsFunc(b.Times, func(v int64) bool { return !fits(v) }) || slices.ContainsFunc(b.Leaps, func(l api.Leap) bool { return !fits(l.At) }),
		!slices.IsSorted(b.Times) || len(slices.Compact(slices.Clone(b.Times))) != len(b.Times),
		slices.ContainsFunc(b.Index, func(i uint8) bool { return int(i) >= len(b.Types) }),
		slices.ContainsFunc(b.Types, func(x api.Type) bool { return x.Offset == min4 || int(x.Desig) >= len(b.Chars) }),
		!designations.Match(b.Chars),
		!areLeaps(b.Leaps, version),
		areIndicatorsAlone,
	} {
		if isViolated {
			list = append(list, i+1)
		}
	}
	return list
}

// ruleOf returns the first rule that b violates, or 0.
func ruleOf(b api.Block, version, size int) int {
	if list := violated(b, version, size); len(list) > 0 {
		return list[0]
	}
	return 0
}

// areLeaps tells whether the records are valid for the version.
func areLeaps(l []api.Leap, version int) bool {
	for i, x := range l {
		if i == 0 {
			if x.At < 0 || version < 4 && x.Corr != 1 && x.Corr != -1 {
				return false
			}
			continue
		}
		before := l[i-1]
		step := int(x.Corr) - int(before.Corr)
		expires := version == 4 && step == 0 && i == len(l)-1
		if before.At > max8-spacing || x.At < before.At+spacing || !expires && step != 1 && step != -1 {
			return false
		}
	}
	return true
}

// blockError is the error of the first rule that b violates.
func blockError(b api.Block, version, size int) api.Errno {
	rule := ruleOf(b, version, size)
	if rule == 5 && slices.ContainsFunc(b.Types, func(x api.Type) bool { return x.Offset == min4 }) {
		return api.ErrOffset
	}
	return []api.Errno{
		api.OK, api.ErrCount, api.ErrArg, api.ErrOrder, api.ErrIndex, api.ErrIndex, api.ErrDesignation, api.ErrLeap, api.ErrIndicator,
	}[rule]
}

// randomBlock makes a block that violates each rule now and then.
func randomBlock(random *rand.Rand) api.Block {
	rarely := func() bool { return random.Intn(25) == 0 }
	var b api.Block
	b.Types = make([]api.Type, 1+random.Intn(3))
	b.Chars = []byte([]string{"\x00", "EST\x00", "A\x00+1-\x00", "a\x00\x00b\x00"}[random.Intn(4)])
	if rarely() {
		b.Chars[random.Intn(len(b.Chars))] = "_=/A"[random.Intn(4)]
	}
	for i := range b.Types {
		b.Types[i] = api.Type{Offset: int32(random.Intn(5) - 2), Dst: random.Intn(2) == 1, Desig: uint8(random.Intn(len(b.Chars)))}
		if rarely() {
			b.Types[i].Offset = min4
		}
		if rarely() {
			b.Types[i].Desig++
		}
	}
	at := int64([]int{-1000, 0, min4, max4 - 3, 1 << 40}[random.Intn(5)])
	for range random.Intn(4) {
		at += int64(random.Intn(12))
		b.Times = append(b.Times, at)
		b.Index = append(b.Index, uint8(random.Intn(len(b.Types))))
		if rarely() {
			b.Index[0]++
		}
	}
	at = int64([]int{0, 1000, max4 - spacing, 1 << 40}[random.Intn(4)])
	corr := int32(1 - 2*random.Intn(2))
	for range random.Intn(4) {
		b.Leaps = append(b.Leaps, api.Leap{At: at, Corr: corr})
		at += spacing + int64(random.Intn(9)-1)
		corr += int32([]int{-1, -1, -1, 1, 1, 1, 0, 2}[random.Intn(8)])
	}
	if len(b.Leaps) > 0 && rarely() {
		b.Leaps[0].At, b.Leaps[0].Corr = -1, 7
	}
	for range len(b.Types) * random.Intn(2) {
		b.Std = append(b.Std, random.Intn(4) != 0)
	}
	for range len(b.Types) * random.Intn(2) {
		b.Ut = append(b.Ut, random.Intn(4) == 0)
	}
	switch random.Intn(50) {
	case 0:
		b.Types = b.Types[1:]
	case 1:
		b.Std = append(b.Std, true)
	case 2:
		b.Chars = nil
	case 3:
		b.Index = append(b.Index, 0)
	}
	return b
}

// P20.1, P20.4: random blocks against the definition.
func TestRandomBlocks(t *testing.T) {
	random := rand.New(rand.NewSource(201))
	seen := map[int]int{}
	for range 100000 {
		b := randomBlock(random)
		for _, size := range []int{4, 8} {
			before := api.OK
			for version := 1; version <= 4; version++ {
				got := validate.Block(b, version, size)
				if want := blockError(b, version, size); got != want {
					t.Fatalf("Block(%v, %d, %d) = %d, want %d", b, version, size, got, want)
				}
				if version > 1 && before == api.OK && got != api.OK {
					t.Fatalf("%v is valid for version %d only", b, version-1)
				}
				before = got
				seen[ruleOf(b, version, size)]++
			}
		}
	}
	for rule := range 9 {
		if seen[rule] < 1000 {
			t.Errorf("rule %d is met %d times only", rule, seen[rule])
		}
	}
}

// P20.3: the versions there are, and those there are not, which come before
// any other fault.
func TestVersions(t *testing.T) {
	checkFile(t, old(), api.OK)
	for version := 2; version <= 4; version++ {
		checkFile(t, fullFile(version), api.OK)
	}
	for _, version := range []int{min8, -257, -3, -1, 0, 5, 6, '2', 256, 258, 1<<32 + 2, max8} {
		checkFile(t, fullFile(version), api.ErrVersion)
		checkFile(t, api.File{Version: version, V1: full()}, api.ErrVersion)
		checkFile(t, api.File{Version: version}, api.ErrVersion)
		checkFile(t, api.File{Version: version, Footer: "?"}, api.ErrVersion)
	}
}

// P20.3: the smallest files of each version.
func TestSmallestFiles(t *testing.T) {
	checkFile(t, api.File{Version: 1, V1: least()}, api.OK)
	for version := 2; version <= 4; version++ {
		for _, footer := range []string{"", "UTC0", "<-03>3<-02>,M3.5.0/2,M10.5.0/3"} {
			checkFooter(t, api.File{Version: version, V1: least(), V2: least(), Footer: footer}, api.OK, 0)
		}
	}
}

// P20.3: files of version 1 that go on behind the first data block.
func TestVersion1(t *testing.T) {
	f := old()
	f.V2 = api.Block{Times: []int64{}, Index: []uint8{}, Types: []api.Type{}, Chars: []byte{}, Leaps: []api.Leap{}, Std: []bool{}, Ut: []bool{}}
	checkFile(t, f, api.OK)
	for _, footer := range []string{newYork, "UTC0", " ", "\x00", "?"} {
		f := old()
		f.Footer = footer
		checkFile(t, f, api.ErrArg)
		f.V2 = full()
		checkFile(t, f, api.ErrArg)
	}
	for _, v2 := range []api.Block{
		least(), full(), {Times: []int64{0}}, {Index: []uint8{0}}, {Types: make([]api.Type, 1)}, {Chars: []byte{0}},
		{Leaps: make([]api.Leap, 1)}, {Std: make([]bool, 1)}, {Ut: make([]bool, 1)},
	} {
		f := old()
		f.V2 = v2
		checkFile(t, f, api.ErrArg)
	}
}

// P20.3: every fault in the first data block, in files of every version.
func TestFaultsInV1(t *testing.T) {
	for _, x := range faults() {
		for version := 1; version <= 4; version++ {
			f := fullFile(version)
			if version == 1 {
				f = old()
			}
			x.apply(&f.V1)
			checkFile(t, f, x.want)
		}
	}
}

// P20.3: every fault in the second data block. There, times have 8 bytes.
func TestFaultsInV2(t *testing.T) {
	for _, x := range faults() {
		for version := 2; version <= 4; version++ {
			f := fullFile(version)
			x.apply(&f.V2)
			f.Footer = ""
			want := x.want
			if x.rule == 2 {
				want = api.OK
			}
			checkFile(t, f, want)
		}
	}
}

// P20.3: leap second records that only version 4 allows, in either block.
func TestLeapsOfVersion4InFiles(t *testing.T) {
	for version := 2; version <= 4; version++ {
		want := api.ErrLeap
		if version == 4 {
			want = api.OK
		}
		f, g, h := fullFile(version), fullFile(version), old()
		f.V1.Leaps[0].Corr, f.V1.Leaps = 2, f.V1.Leaps[:1]
		checkFile(t, f, want)
		g.V2.Leaps[0].Corr, g.V2.Leaps = 2, g.V2.Leaps[:1]
		checkFile(t, g, want)
		h.V1.Leaps[0].Corr, h.V1.Leaps = 2, h.V1.Leaps[:1]
		checkFile(t, h, api.ErrLeap)
	}
}

// extended has the state of newYork in January 1970, but needs version 3.
const extended = "EST5EDT,M3.2.0/-1,M11.1.0"

// mismatched is a rule that fullFile does not have.
const mismatched = "CST6CDT,M3.2.0,M11.1.0"

// fileFault breaks one rule of a file of version 2.
type fileFault struct {
	rule  int
	apply func(f *api.File)
	want  api.Errno
}

func fileFaults() []fileFault {
	return []fileFault{
		{1, func(f *api.File) { f.Version = 5 }, api.ErrVersion},
		{1, func(f *api.File) { f.Version = 0 }, api.ErrVersion},
		{1, func(f *api.File) { f.Version = -2 }, api.ErrVersion},
		{2, func(f *api.File) { f.V1.Times[4] = 1 << 40 }, api.ErrArg},
		{2, func(f *api.File) { f.V1 = api.Block{} }, api.ErrCount},
		{2, func(f *api.File) { f.V1.Leaps[0].Corr = 4 }, api.ErrLeap},
		{2, func(f *api.File) { f.V1.Chars[0] = '=' }, api.ErrDesignation},
		{3, func(f *api.File) { f.Version = 1 }, api.ErrArg},
		{4, func(f *api.File) { f.V2 = api.Block{} }, api.ErrCount},
		{4, func(f *api.File) { f.V2.Times[4] = 0 }, api.ErrOrder},
		{4, func(f *api.File) { f.V2.Ut[1] = true }, api.ErrIndicator},
		{5, func(f *api.File) { f.Footer = "EST5EDT" }, api.ErrFooter},
		{5, func(f *api.File) { f.Footer = "?" }, api.ErrFooter},
		{6, func(f *api.File) { f.Footer = extended }, api.ErrHours},
		{7, func(f *api.File) { f.Footer = mismatched }, api.ErrMismatch},
		{7, func(f *api.File) { f.V2.Index[4] = 1 }, api.ErrMismatch},
	}
}

// P20.3: each rule of a file violated alone, and pairs of them together, where
// the earlier one determines the error. Faults that change the same part of the
// file are not combined.
func TestFileFaults(t *testing.T) {
	for _, x := range fileFaults() {
		f := fullFile(2)
		x.apply(&f)
		checkFile(t, f, x.want)
		for _, y := range fileFaults() {
			isSamePart := x.rule == 1 && y.rule == 3 || x.rule >= 5 && y.rule >= 5
			if x.rule >= y.rule || isSamePart {
				continue
			}
			f := fullFile(2)
			y.apply(&f)
			x.apply(&f)
			checkFile(t, f, x.want)
		}
	}
}

// P20.2, P20.3: pairs of the rules 5 to 7.
func TestFooterFaults(t *testing.T) {
	for footer, want := range map[string]api.Errno{
		"CST6CDT,M3.2.0/-1,M11.1.0/x": api.ErrFooter,
		"CST6CDT,M3.2.0,M11.1.0x":     api.ErrFooter,
		"EST5EDT,M3.2.0/-1,M11.1.0 ":  api.ErrFooter,
		"CST6CDT,M3.2.0/-1,M11.1.0":   api.ErrHours,
		"CST6CDT,M3.2.0,M11.1.0/25":   api.ErrHours,
	} {
		f := fullFile(2)
		f.Footer = footer
		_, _, at := posixtz.Parse(footer)
		checkFooter(t, f, want, at)
	}
}

// P20.2: the offsets of syntax errors.
func TestSyntaxErrors(t *testing.T) {
	for footer, at := range map[string]int{
		" ": 0, "?": 0, "EST": 3, "ES5": 0, "<EST5": 0, "EST25": 3, "EST5 ": 4, "EST5E": 4, "EST5EDT": 7, "EST5EDT4": 8, "EST5EDT,": 8,
		"EST5EDT,M3.2.0": 14, "EST5EDT,M13.2.0,M11.1.0": 8, "EST5EDT,M3.2.0,M11.1.7": 15, "EST5EDT,M3.2.0,M11.1.0\n": 22, "EST5EDT,M3.2.0,M11.1.0,": 22,
		"EST5EDT25,M3.2.0,M11.1.0": 7, "EST-24:59:59EDT,M3.2.0,M11.1.0": 30, "\x00": 0, "EST5\x00": 4, "EST5EDT,M3.2.0/168,M11.1.0": 8,
	} {
		for version := 2; version <= 4; version++ {
			for _, b := range []api.Block{least(), full()} {
				checkFooter(t, api.File{Version: version, V1: least(), V2: b, Footer: footer}, api.ErrFooter, at)
			}
		}
	}
}

// P20.2: every change of one byte of a footer, against the parser.
func TestChangedFooters(t *testing.T) {
	for place := range len(newYork) {
		for c := range 256 {
			footer := newYork[:place] + string([]byte{byte(c)}) + newYork[place+1:]
			f := api.File{Version: 4, V1: least(), V2: least(), Footer: footer}
			_, why, at := posixtz.Parse(footer)
			checkFooter(t, f, why, at)
			f.Footer = footer[:place]
			_, why, at = posixtz.Parse(f.Footer)
			if f.Footer != "" {
				checkFooter(t, f, why, at)
			}
		}
	}
}

// P20.2: extended rules need version 3, whether there are transitions or not.
func TestExtendedRules(t *testing.T) {
	for footer, isExtended := range map[string]bool{
		newYork: false, extended: true, "EST5EDT,M3.2.0/0,M11.1.0/24": false, "EST5EDT,M3.2.0/24:00:01,M11.1.0": true,
		"EST5EDT,M3.2.0,M11.1.0/24:00:01": true, "EST5EDT,M3.2.0,M11.1.0/-0:00:01": true, "EST5EDT,M3.2.0/-167,M11.1.0/167": true,
		"EST5EDT,M3.2.0/24,M11.1.0/-0": false, "EST5": false,
	} {
		for version := 2; version <= 4; version++ {
			want := api.OK
			if isExtended && version == 2 {
				want = api.ErrHours
			}
			f := fullFile(version)
			f.Footer = footer
			checkFooter(t, f, want, 0)
			f.V2.Times, f.V2.Index = nil, nil
			checkFooter(t, f, want, 0)
		}
	}
}

// P20.2: a rule without transitions continues nothing, and transitions without
// a rule are not continued.
func TestNothingToAgreeWith(t *testing.T) {
	for version := 2; version <= 4; version++ {
		f := fullFile(version)
		f.Footer = mismatched
		checkFooter(t, f, api.ErrMismatch, 0)
		f.V2.Times, f.V2.Index = nil, nil
		checkFooter(t, f, api.OK, 0)
		f = fullFile(version)
		f.V2.Index[4] = 2
		checkFooter(t, f, api.ErrMismatch, 0)
		f.Footer = ""
		checkFooter(t, f, api.OK, 0)
		f = fullFile(version)
		f.V1.Index[4] = 2
		checkFooter(t, f, api.OK, 0)
	}
}

// with has one transition, to the type x, whose designation is name.
func with(at int64, x api.Type, name string, footer string) api.File {
	x.Desig = 1
	b := api.Block{Times: []int64{at}, Index: []uint8{1}, Types: []api.Type{{}, x}, Chars: []byte("\x00" + name + "\x00")}
	return api.File{Version: 3, V1: least(), V2: b, Footer: footer}
}

// P20.2: a rule that differs from the last type in one thing alone, and one
// that has another type's result.
func TestMismatches(t *testing.T) {
	const winter, summer = 1704067200, 1719792000 // 2024-01-01 and 2024-07-01
	for _, x := range []struct {
		at   int64
		x    api.Type
		name string
		want api.Errno
	}{
		{winter, api.Type{Offset: -18000}, "EST", api.OK},
		{winter, api.Type{Offset: -18001}, "EST", api.ErrMismatch},
		{winter, api.Type{Offset: 18000}, "EST", api.ErrMismatch},
		{winter, api.Type{Offset: -14400}, "EST", api.ErrMismatch},
		{winter, api.Type{Offset: -18000, Dst: true}, "EST", api.ErrMismatch},
		{winter, api.Type{Offset: -18000}, "EDT", api.ErrMismatch},
		{winter, api.Type{Offset: -18000}, "ESt", api.ErrMismatch},
		{winter, api.Type{Offset: -18000}, "ESTX", api.ErrMismatch},
		{winter, api.Type{Offset: -18000}, "ES", api.ErrMismatch},
		{winter, api.Type{Offset: -18000}, "", api.ErrMismatch},
		{winter, api.Type{Offset: -14400, Dst: true}, "EDT", api.ErrMismatch},
		{summer, api.Type{Offset: -14400, Dst: true}, "EDT", api.OK},
		{summer, api.Type{Offset: -14400}, "EDT", api.ErrMismatch},
		{summer, api.Type{Offset: -18000, Dst: true}, "EDT", api.ErrMismatch},
		{summer, api.Type{Offset: -14400, Dst: true}, "EST", api.ErrMismatch},
		{summer, api.Type{Offset: -18000}, "EST", api.ErrMismatch},
	} {
		checkFooter(t, with(x.at, x.x, x.name, newYork), x.want, 0)
	}
	checkFooter(t, with(winter, api.Type{Offset: 3600}, "+01", "<+01>-1"), api.OK, 0)
	checkFooter(t, with(winter, api.Type{Offset: 3600}, "+01", "<-01>-1"), api.ErrMismatch, 0)
	checkFooter(t, with(winter, api.Type{Offset: 89999}, "Far", "Far-24:59:59"), api.OK, 0)
	checkFooter(t, with(winter, api.Type{Offset: -89999}, "Far", "Far24:59:59"), api.OK, 0)
}

// P20.2: only the last transition counts, wherever it is, and its type by its
// index, whatever other types there are.
func TestLastTransition(t *testing.T) {
	at := func(month time.Month) int64 { return time.Date(2024, month, 1, 0, 0, 0, 0, time.UTC).Unix() }
	f := fullFile(2)
	f.V2.Times = []int64{at(2), at(4), at(5), at(6), at(7)}
	checkFooter(t, f, api.ErrMismatch, 0)
	f.V2.Index = []uint8{0, 0, 0, 0, 1}
	checkFooter(t, f, api.OK, 0)
	f.V2.Index = []uint8{2, 2, 2, 2, 1}
	checkFooter(t, f, api.OK, 0)
	f.V2.Index = []uint8{1, 1, 1, 1, 0}
	checkFooter(t, f, api.ErrMismatch, 0)
	f.V2.Times[4] = at(12)
	checkFooter(t, f, api.OK, 0)
	f.V2.Types[0].Desig = 1 // "ST"
	checkFooter(t, f, api.ErrMismatch, 0)
	f.V2.Chars = []byte("xEST\x00EDT\x00-00\x00")
	checkFooter(t, f, api.OK, 0)
}

// P20.2: at the second of a change, and the seconds around it.
func TestChangeItself(t *testing.T) {
	const spring, fall = 1710054000, 1730613600
	est, edt := api.Type{Offset: -18000}, api.Type{Offset: -14400, Dst: true}
	for _, x := range []struct {
		at       int64
		daylight bool
	}{{spring - 1, false}, {spring, true}, {spring + 1, true}, {fall - 1, true}, {fall, false}, {fall + 1, false}} {
		wantEST, wantEDT := api.OK, api.ErrMismatch
		if x.daylight {
			wantEST, wantEDT = wantEDT, wantEST
		}
		checkFooter(t, with(x.at, est, "EST", newYork), wantEST, 0)
		checkFooter(t, with(x.at, edt, "EDT", newYork), wantEDT, 0)
	}
}

// P20.2: the correction at the last transition is taken out of its time.
func TestLeapSecondsOfTheLastTransition(t *testing.T) {
	const spring = 1710054000
	edt := api.Type{Offset: -14400, Dst: true}
	for _, x := range []struct {
		version int
		leaps   []api.Leap
		corr    int64 // at the last transition
	}{
		{2, nil, 0},
		{2, []api.Leap{{At: 78796800, Corr: 1}}, 1},
		{2, []api.Leap{{At: 78796800, Corr: -1}}, -1},
		{3, []api.Leap{{At: 78796800, Corr: 1}, {At: 94694401, Corr: 2}, {At: 126230402, Corr: 3}}, 3},
		{3, []api.Leap{{At: 78796800, Corr: -1}, {At: 94694401, Corr: -2}, {At: 126230402, Corr: -1}}, -1},
		{3, []api.Leap{{At: spring + 2, Corr: 1}}, 0}, // after the transition
		{4, []api.Leap{{At: 78796800, Corr: 27}}, 27},
		{4, []api.Leap{{At: 78796800, Corr: 4000}, {At: 94694401, Corr: 4000}}, 4000},
		{4, []api.Leap{{At: 78796800, Corr: -4000}}, -4000},
		{4, []api.Leap{{At: 0, Corr: max4}}, max4},
		{4, []api.Leap{{At: 0, Corr: min4}, {At: spring * 2, Corr: min4 + 1}}, min4},
	} {
		for _, near := range []int64{-2, -1, 0, 1} {
			f := with(spring+x.corr+near, edt, "EDT", newYork)
			f.Version = x.version
			f.V2.Leaps = x.leaps
			if x.corr < 0 && f.V2.Times[0] < 0 {
				continue // before the records
			}
			want := api.OK
			if near < 0 {
				want = api.ErrMismatch
			}
			checkFooter(t, f, want, 0)
			// The records of the first block do not matter.
			f.V1.Leaps = []api.Leap{{At: 0, Corr: 1}}
			checkFooter(t, f, want, 0)
		}
	}
}

// P20.2: a record at the last transition itself counts, one after it does not.
func TestRecordAtTheLastTransition(t *testing.T) {
	const spring = 1710054000
	edt := api.Type{Offset: -14400, Dst: true}
	for distance, want := range map[int64]api.Errno{-1: api.ErrMismatch, 0: api.ErrMismatch, 1: api.OK} {
		f := with(spring, edt, "EDT", newYork)
		f.V2.Leaps = []api.Leap{{At: spring + distance, Corr: 1}}
		checkFooter(t, f, want, 0)
	}
	f := with(spring+1, edt, "EDT", newYork)
	f.V2.Leaps = []api.Leap{{At: spring + 1, Corr: 1}}
	checkFooter(t, f, api.OK, 0)
}

// P20.2: a last transition at the ends of 64 bits. The last second of 64 bits
// is 15:30:07 of December 4, from which on the rules below have daylight saving
// time up to January 10; the first one is 8:29:52 of January 27. At the lower
// end no leap second has come, so only the upper one saturates.
func TestEndsOf64Bits(t *testing.T) {
	const (
		atEnd    = "AAA0BBB,J338/15:30:07,J10/0"
		atStart  = "AAA0BBB,J27/8:29:52,J300/0"
		afterEnd = "AAA0BBB,J338/15:30:08,J10/0"
	)
	aaa, bbb := api.Type{}, api.Type{Offset: 3600, Dst: true}
	wants := func(at int64, footer string, leaps []api.Leap, daylight bool) {
		t.Helper()
		wantAAA, wantBBB := api.OK, api.ErrMismatch
		if daylight {
			wantAAA, wantBBB = wantBBB, wantAAA
		}
		f, g := with(at, aaa, "AAA", footer), with(at, bbb, "BBB", footer)
		f.Version, g.Version = 4, 4
		f.V2.Leaps, g.V2.Leaps = leaps, leaps
		checkFooter(t, f, wantAAA, 0)
		checkFooter(t, g, wantBBB, 0)
	}
	wants(max8, atEnd, nil, true)
	wants(max8-1, atEnd, nil, false)
	wants(max8, afterEnd, nil, false)
	wants(min8, atStart, nil, true)
	wants(min8+1, atStart, nil, true)
	wants(min8, "AAA0BBB,J27/8:29:53,J300/0", nil, false)
	wants(min8+1, "AAA0BBB,J27/8:29:53,J300/0", nil, true)
	for _, corr := range []int32{-1, -2, -100, min4} {
		leaps := []api.Leap{{At: 0, Corr: corr}}
		wants(max8, atEnd, leaps, true)
		wants(max8, afterEnd, leaps, false)
		wants(max8-1, atEnd, leaps, true)
		wants(max8+int64(corr), atEnd, leaps, true)
		wants(max8+int64(corr)+1, atEnd, leaps, true)
		wants(max8+int64(corr)-1, atEnd, leaps, false)
		wants(max8, atStart, leaps, false)
		wants(min8, atStart, leaps, true)
	}
	for _, corr := range []int32{1, 2, 100, max4} {
		leaps := []api.Leap{{At: 0, Corr: corr}}
		wants(max8, atEnd, leaps, false)
		wants(min8, atStart, leaps, true)
		wants(min8+1, "AAA0BBB,J27/8:29:53,J300/0", leaps, true)
	}
	// A record at the last second itself, and the last one but one.
	wants(max8-1, atEnd, []api.Leap{{At: max8 - 1, Corr: -1}}, true)
	wants(max8-1, atEnd, []api.Leap{{At: max8, Corr: -1}}, false)
	wants(max8, afterEnd, []api.Leap{{At: max8, Corr: -1}}, false)
}

// P20.2: the difference saturates at the lower end, too. Only a record before 0,
// which no valid file has, leads there, so that Footer alone can tell.
func TestLowerEndOf64Bits(t *testing.T) {
	for _, corr := range []int32{1, 2, max4} {
		for footer, want := range map[string]api.Errno{"AAA0BBB,J27/8:29:53,J300/0": api.OK, "AAA0BBB,J27/8:29:52,J300/0": api.ErrMismatch} {
			f := with(min8, api.Type{}, "AAA", footer)
			f.V2.Leaps = []api.Leap{{At: min8, Corr: corr}}
			if got, at := validate.Footer(f); got != want || at != 0 {
				t.Errorf("Footer(%+v) = %d, %d, want %d, 0", f, got, at, want)
			}
		}
	}
}

// newYorkIs tells offset, flag and name in force at t, by the library's package
// time: from the second Sunday of March to the first one of November.
func newYorkIs(at int64) (int32, bool, string) {
	year := time.Unix(at, 0).UTC().Year()
	sunday := func(month time.Month, n, hour int) int64 {
		day := time.Date(year, month, 1, hour, 0, 0, 0, time.UTC)
		return day.AddDate(0, 0, (7-int(day.Weekday()))%7+7*(n-1)).Unix()
	}
	if sunday(3, 2, 7) <= at && at < sunday(11, 1, 6) {
		return -14400, true, "EDT"
	}
	return -18000, false, "EST"
}

// P20.2, P20.3: random times, corrections and types against the definition.
func TestRandomMismatches(t *testing.T) {
	random := rand.New(rand.NewSource(202))
	names, offsets := []string{"EST", "EDT"}, []int32{-18000, -14400}
	seen := map[api.Errno]int{}
	for range 20000 {
		at := int64(random.Intn(8e9)) - 2e9
		corr := random.Intn(4e7) - 2e7
		offset, dst, name := newYorkIs(at)
		x := api.Type{Offset: offsets[random.Intn(2)], Dst: random.Intn(2) == 1}
		f := with(at+int64(corr), x, names[random.Intn(2)], newYork)
		f.Version = 4
		f.V2.Leaps = []api.Leap{{At: 0, Corr: int32(corr)}}
		if at+int64(corr) < 0 || random.Intn(4) == 0 {
			f.V2.Leaps, f.V2.Times[0] = nil, at
		}
		want := api.ErrMismatch
		if got, _, _ := strings.Cut(string(f.V2.Chars[1:]), "\x00"); got == name && x.Offset == offset && x.Dst == dst {
			want = api.OK
		}
		checkFooter(t, f, want, 0)
		seen[want]++
	}
	if seen[api.OK] < 1000 || seen[api.ErrMismatch] < 1000 {
		t.Error(seen)
	}
}

// P20.4: valid files of versions 2 and 3 with the next version.
func TestNextVersion(t *testing.T) {
	random := rand.New(rand.NewSource(204))
	footers := []string{"", newYork, extended, mismatched, "EST5", "EDT4", "A00-1", "<a>0", "EST5EDT,0/0,J365/25", "EST5EDT,0/0,J365/23"}
	valid := map[int]int{}
	for range 60000 {
		f := api.File{Version: 1 + random.Intn(4), V1: least(), V2: full(), Footer: footers[random.Intn(len(footers))]}
		switch random.Intn(3) {
		case 0:
			f.V1 = randomBlock(random)
		case 1:
			f.V2 = randomBlock(random)
		}
		if validate.File(f) != api.OK {
			continue
		}
		valid[f.Version]++
		if f.Version == 2 || f.Version == 3 {
			f.Version++
			checkFooter(t, f, api.OK, 0)
		}
	}
	if valid[2] < 1000 || valid[3] < 1000 || valid[4] < 1000 {
		t.Error(valid)
	}
	f := fullFile(3)
	f.Footer = extended
	checkFile(t, f, api.OK)
	f.Version = 4
	checkFile(t, f, api.OK)
}

// room makes a copy of l with three elements behind its end, which no function
// may touch.
func room[T any](l []T, x T) []T {
	return append(slices.Clone(l), x, x, x)[:len(l)]
}

// roomy has such room in each list.
func roomy(b api.Block) api.Block {
	return api.Block{
		Times: room(b.Times, 77), Index: room(b.Index, 77), Types: room(b.Types, api.Type{Offset: 77, Dst: true, Desig: 77}), Chars: room(b.Chars, 77),
		Leaps: room(b.Leaps, api.Leap{At: 77, Corr: 77}), Std: room(b.Std, true), Ut: room(b.Ut, true),
	}
}

// text tells the elements of all lists of b, up to their capacities.
func text(b api.Block) string {
	return fmt.Sprint(b.Times[:cap(b.Times)], b.Index[:cap(b.Index)], b.Types[:cap(b.Types)], b.Chars[:cap(b.Chars)],
		b.Leaps[:cap(b.Leaps)], b.Std[:cap(b.Std)], b.Ut[:cap(b.Ut)])
}

// P20.5: arguments stay as they are, valid or not.
func TestArgumentsStay(t *testing.T) {
	list := faults()
	list = append(list, fault{0, "none", func(*api.Block) {}, api.OK}, fault{0, "the smallest", func(b *api.Block) { *b = least() }, api.OK})
	for _, x := range list {
		broken := full()
		x.apply(&broken)
		for _, footer := range []string{newYork, extended, mismatched, "EST5EDT"} {
			for version := 0; version <= 5; version++ {
				b := roomy(broken)
				f := api.File{Version: version, V1: roomy(full()), V2: roomy(broken), Footer: strings.Clone(footer)}
				before := text(b) + text(f.V1) + text(f.V2)
				validate.Block(b, version, 4)
				validate.Block(b, version, 8)
				validate.Footer(f)
				validate.File(f)
				f.V1, f.V2 = f.V2, f.V1
				validate.Footer(f)
				validate.File(f)
				if after := text(b) + text(f.V2) + text(f.V1); after != before || f.Footer != footer || f.Version != version {
					t.Fatalf("%s, version %d: the arguments are modified", x.name, version)
				}
			}
		}
	}
}

// The results depend on the arguments only: a second call has the same.
func TestCallsAreIndependent(t *testing.T) {
	for range 2 {
		for _, x := range faults() {
			b := full()
			checkBlock(t, b, 1, 4, api.OK)
			x.apply(&b)
			checkBlock(t, b, 1, 4, x.want)
			checkBlock(t, cloneBlock(b), 1, 4, x.want)
		}
	}
}

// Arguments that the chapter leaves open cause no panic: other versions and
// time sizes, and footers of files whose second block is not valid.
func TestOtherArgumentsEnd(t *testing.T) {
	blocks := []api.Block{
		{}, least(), full(), {Times: []int64{1}}, {Times: []int64{1, 0}, Index: []uint8{0}}, {Times: []int64{1}, Index: []uint8{0}},
		{Times: []int64{1}, Index: []uint8{0}, Types: make([]api.Type, 1)}, {Index: []uint8{5}, Types: make([]api.Type, 1)},
		{Times: []int64{min8}, Index: []uint8{1}, Types: make([]api.Type, 1), Chars: []byte{0}},
		{Times: []int64{max8}, Index: []uint8{0}, Types: []api.Type{{Desig: 3}}, Chars: []byte("abc")},
		{Times: []int64{min8}, Index: []uint8{0}, Types: make([]api.Type, 1), Chars: []byte("EST\x00"), Leaps: []api.Leap{{At: min8, Corr: max4}}},
		{Times: []int64{max8}, Index: []uint8{0}, Types: make([]api.Type, 1), Chars: []byte("EST"), Leaps: []api.Leap{{At: 9, Corr: min4}, {At: 2, Corr: min4}}},
	}
	for _, x := range faults() {
		b := full()
		x.apply(&b)
		blocks = append(blocks, b)
	}
	for _, b := range blocks {
		for _, version := range []int{min8, -1, 0, 1, 2, 3, 4, 5, max8} {
			for _, size := range []int{min8, -8, 0, 1, 4, 5, 8, 16, max8} {
				validate.Block(b, version, size)
			}
			for _, footer := range []string{"", "?", "EST5", newYork, extended} {
				validate.Footer(api.File{Version: version, V2: b, Footer: footer})
				validate.File(api.File{Version: version, V1: b, V2: b, Footer: footer})
				validate.File(api.File{Version: version, V1: least(), V2: b, Footer: footer})
			}
		}
	}
}
