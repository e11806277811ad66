package legacy_test

import (
	"bytes"
	"math"
	"math/rand"
	"reflect"
	"slices"
	"testing"

	"zoneinfo/api"
	"zoneinfo/legacy"
	"zoneinfo/validate"
)

// The limits of times of 4 and 8 bytes.
const (
	min4 = math.MinInt32
	max4 = math.MaxInt32
	min8 = math.MinInt64
	max8 = math.MaxInt64
)

// spacing is the smallest number of seconds between leap second records.
const spacing = 2419199

// slim is the slim block as the chapter puts it.
func slim() api.Block {
	return api.Block{Types: []api.Type{{Offset: 0, Dst: false, Desig: 0}}, Chars: []byte{0}}
}

// emptied has lists that are empty but not nil.
func emptied() api.Block {
	return api.Block{
		Times: []int64{}, Index: []uint8{}, Types: []api.Type{{}}, Chars: []byte("\x00"),
		Leaps: []api.Leap{}, Std: []bool{}, Ut: []bool{},
	}
}

// full has transitions and leap second records within 32 bits and beyond, and
// four types that differ in everything.
func full() api.Block {
	return api.Block{
		Times: []int64{-1 << 40, min4 - 1, min4, -1000, max4, max4 + 1, 1 << 40},
		Index: []uint8{1, 2, 0, 3, 2, 1, 0},
		Types: []api.Type{{Offset: 100, Desig: 0}, {Offset: -200, Dst: true, Desig: 4}, {Offset: 300, Desig: 8}, {Offset: 400, Dst: true, Desig: 9}},
		Chars: []byte("LMT\x00EDT\x00+05\x00"),
		Leaps: []api.Leap{{At: 0, Corr: 1}, {At: max4 - spacing, Corr: 2}, {At: max4, Corr: 1}, {At: max4 + spacing, Corr: 0}},
		Std:   []bool{true, false, true, true},
		Ut:    []bool{false, false, true, false},
	}
}

// withTimes is full with other transitions, which lead to the types 3, 2, 1 and
// 0 in turn.
func withTimes(times ...int64) api.Block {
	b := full()
	b.Times, b.Index = times, make([]uint8, len(times))
	for i := range b.Index {
		b.Index[i] = uint8(3 - i%4)
	}
	return b
}

func clone(b api.Block) api.Block {
	return api.Block{
		Times: slices.Clone(b.Times), Index: slices.Clone(b.Index), Types: slices.Clone(b.Types), Chars: slices.Clone(b.Chars),
		Leaps: slices.Clone(b.Leaps), Std: slices.Clone(b.Std), Ut: slices.Clone(b.Ut),
	}
}

// same compares blocks, for which nil and empty lists are equal.
func same(a, b api.Block) bool {
	return slices.Equal(a.Times, b.Times) && slices.Equal(a.Index, b.Index) && slices.Equal(a.Types, b.Types) &&
		bytes.Equal(a.Chars, b.Chars) && slices.Equal(a.Leaps, b.Leaps) && slices.Equal(a.Std, b.Std) && slices.Equal(a.Ut, b.Ut)
}

func checkIsSlim(t *testing.T, b api.Block, want bool) {
	t.Helper()
	if got := legacy.IsSlim(b); got != want {
		t.Errorf("IsSlim(%v) = %v, want %v", b, got, want)
	}
}

func checkInEffect(t *testing.T, b api.Block, time int64, want int) {
	t.Helper()
	if got := legacy.InEffect(b, time); got != want {
		t.Errorf("InEffect(%v %v, %d) = %d, want %d", b.Times, b.Index, time, got, want)
	}
}

// checkView checks what P22.2 and P22.3 say about the view of a valid block.
func checkView(t *testing.T, b, want api.Block) {
	t.Helper()
	got := legacy.View(b)
	if !same(got, want) {
		t.Fatalf("View(%v) = %v, want %v", b, got, want)
	}
	checkValidity(t, b, got)
	checkEffects(t, b, got)
	if again := legacy.View(got); !same(again, got) {
		t.Errorf("the view of the view %v is %v", got, again)
	}
}

// checkValidity: the view is valid for every version for which the block is.
func checkValidity(t *testing.T, b, view api.Block) {
	t.Helper()
	isValid := false
	for version := 1; version <= 4; version++ {
		if validate.Block(b, version, 8) == api.OK {
			isValid = true
			if why := validate.Block(view, version, 4); why != api.OK {
				t.Errorf("the view of %v has error %d in version %d", b, why, version)
			}
		}
	}
	if !isValid {
		t.Errorf("%v is not valid", b)
	}
}

// effect is all that a block tells about a type.
type effect struct {
	offset       int32
	isDst        bool
	name         string
	isStd, hasSt bool
	isUt, hasUt  bool
}

// effectAt takes the last of the transitions up to the time, one by one.
func effectAt(b api.Block, time int64) effect {
	i := 0
	for k, at := range b.Times {
		if at <= time {
			i = int(b.Index[k])
		}
	}
	x := b.Types[i]
	name, _, _ := bytes.Cut(b.Chars[x.Desig:], []byte{0})
	e := effect{offset: x.Offset, isDst: x.Dst, name: string(name), hasSt: len(b.Std) > 0, hasUt: len(b.Ut) > 0}
	e.isStd = e.hasSt && b.Std[i]
	e.isUt = e.hasUt && b.Ut[i]
	return e
}

// checkEffects compares block and view at every place from -2^31 up to the last
// transition of the view where something could change. If it has none, every
// time up to the next transition of b is compared.
func checkEffects(t *testing.T, b, view api.Block) {
	t.Helper()
	last := int64(max4)
	if n := len(view.Times); n > 0 {
		last = view.Times[n-1]
	}
	times := []int64{min4, min4 + 1, -1, 0, 1, max4 - 1, max4}
	for _, at := range b.Times {
		times = append(times, at-1, at, at+1)
	}
	for _, time := range times {
		if time >= min4 && time <= last {
			if got, want := effectAt(view, time), effectAt(b, time); got != want {
				t.Errorf("at %d the view of %v has %+v, want %+v", time, b, got, want)
			}
		}
	}
}

// P22.1: the slim block.
func TestSlim(t *testing.T) {
	got := legacy.Slim()
	if !same(got, slim()) {
		t.Errorf("Slim() = %v, want %v", got, slim())
	}
	for version := 1; version <= 4; version++ {
		for _, size := range []int{4, 8} {
			if why := validate.Block(got, version, size); why != api.OK {
				t.Errorf("the slim block has error %d in version %d with %d bytes", why, version, size)
			}
		}
	}
	checkIsSlim(t, got, true)
	checkView(t, got, slim())
}

// P22.1: blocks that equal the slim block, and others.
func TestIsSlim(t *testing.T) {
	checkIsSlim(t, slim(), true)
	checkIsSlim(t, emptied(), true)
	checkIsSlim(t, api.Block{}, false)
	checkIsSlim(t, full(), false)
	for name, change := range map[string]func(b *api.Block){
		"no type":              func(b *api.Block) { b.Types = nil },
		"two types":            func(b *api.Block) { b.Types = make([]api.Type, 2) },
		"an offset":            func(b *api.Block) { b.Types[0].Offset = 1 },
		"a negative offset":    func(b *api.Block) { b.Types[0].Offset = -1 },
		"the smallest offset":  func(b *api.Block) { b.Types[0].Offset = min4 },
		"daylight saving time": func(b *api.Block) { b.Types[0].Dst = true },
		"a designation index":  func(b *api.Block) { b.Types[0].Desig = 1 },
		"the largest one":      func(b *api.Block) { b.Types[0].Desig = 255 },
		"no table":             func(b *api.Block) { b.Chars = nil },
		"an empty table":       func(b *api.Block) { b.Chars = []byte{} },
		"another byte":         func(b *api.Block) { b.Chars[0] = 1 },
		"a letter":             func(b *api.Block) { b.Chars[0] = 'A' },
		"a second NUL":         func(b *api.Block) { b.Chars = []byte{0, 0} },
		"a name":               func(b *api.Block) { b.Chars = []byte("UTC\x00") },
		"a name behind":        func(b *api.Block) { b.Chars = []byte("\x00UTC\x00") },
		"a transition":         func(b *api.Block) { b.Times, b.Index = []int64{0}, []uint8{0} },
		"a time":               func(b *api.Block) { b.Times = []int64{0} },
		"an index":             func(b *api.Block) { b.Index = []uint8{0} },
		"a leap second":        func(b *api.Block) { b.Leaps = []api.Leap{{}} },
		"a standard indicator": func(b *api.Block) { b.Std = []bool{false} },
		"a UT indicator":       func(b *api.Block) { b.Ut = []bool{false} },
		"both indicators":      func(b *api.Block) { b.Std, b.Ut = []bool{true}, []bool{true} },
		"only the table":       func(b *api.Block) { *b = api.Block{Chars: []byte{0}} },
		"only the type":        func(b *api.Block) { *b = api.Block{Types: []api.Type{{}}} },
	} {
		for _, b := range []api.Block{slim(), emptied()} {
			change(&b)
			t.Run(name, func(t *testing.T) { checkIsSlim(t, b, false) })
		}
	}
}

// P22.1: no transition, and one.
func TestInEffectOfFew(t *testing.T) {
	none, one := withTimes(), withTimes(7)
	for _, time := range []int64{min8, min8 + 1, min4 - 1, min4, -1, 0, 1, max4, max4 + 1, max8} {
		checkInEffect(t, none, time, 0)
		checkInEffect(t, slim(), time, 0)
	}
	for _, x := range []struct {
		time int64
		want int
	}{{min8, 0}, {-7, 0}, {0, 0}, {6, 0}, {7, 3}, {8, 3}, {1 << 32, 3}, {max8, 3}} {
		checkInEffect(t, one, x.time, x.want)
	}
}

// P22.1: before, at and behind each of several transitions.
func TestInEffect(t *testing.T) {
	b := full()
	for _, x := range []struct {
		time int64
		want int
	}{
		{min8, 0}, {-1<<40 - 1, 0}, {-1 << 40, 1}, {-1<<40 + 1, 1}, {-1 << 35, 1}, {min4 - 2, 1}, {min4 - 1, 2},
		{min4, 0}, {min4 + 1, 0}, {-1001, 0}, {-1000, 3}, {-999, 3}, {0, 3}, {max4 - 1, 3}, {max4, 2}, {max4 + 1, 1},
		{max4 + 2, 1}, {1<<40 - 1, 1}, {1 << 40, 0}, {1<<40 + 1, 0}, {max8, 0},
	} {
		checkInEffect(t, b, x.time, x.want)
	}
	ends := withTimes(min8, min8+1, max8-1, max8)
	for _, x := range []struct {
		time int64
		want int
	}{{min8, 3}, {min8 + 1, 2}, {min8 + 2, 2}, {0, 2}, {max8 - 2, 2}, {max8 - 1, 1}, {max8, 0}} {
		checkInEffect(t, ends, x.time, x.want)
	}
}

// P22.1: every time around up to 300 transitions, of all types up to 255.
func TestInEffectOfMany(t *testing.T) {
	for n := range 300 {
		b := api.Block{Types: make([]api.Type, 256), Chars: []byte{0}}
		for i := range n {
			b.Times, b.Index = append(b.Times, int64(3*i)), append(b.Index, uint8(255-i%256))
		}
		want := 0
		for time := int64(-2); time < int64(3*n+2); time++ {
			if time >= 0 && time < int64(3*n) {
				want = 255 - int(time/3)%256
			}
			checkInEffect(t, b, time, want)
		}
	}
}

// P22.2: the chapter's example.
func TestExample(t *testing.T) {
	b := api.Block{
		Times: []int64{-1 << 40}, Index: []uint8{1},
		Types: []api.Type{{Offset: 3208, Desig: 0}, {Offset: 3600, Desig: 4}}, Chars: []byte("LMT\x00CET\x00"),
	}
	checkView(t, b, api.Block{Types: []api.Type{{Offset: 3600, Desig: 4}, {Offset: 3208, Desig: 0}}, Chars: []byte("LMT\x00CET\x00")})
}

// P22.2, P22.3: transitions and leap second records on both sides of both
// bounds. The type just before -2^31 is 2, although the one at it is 0.
func TestViewOfFull(t *testing.T) {
	checkView(t, full(), api.Block{
		Times: []int64{min4, -1000, max4},
		Index: []uint8{2, 3, 0},
		Types: []api.Type{{Offset: 300, Desig: 8}, {Offset: -200, Dst: true, Desig: 4}, {Offset: 100, Desig: 0}, {Offset: 400, Dst: true, Desig: 9}},
		Chars: []byte("LMT\x00EDT\x00+05\x00"),
		Leaps: []api.Leap{{At: 0, Corr: 1}, {At: max4 - spacing, Corr: 2}, {At: max4, Corr: 1}},
		Std:   []bool{true, false, true, true},
		Ut:    []bool{true, false, false, false},
	})
}

// P22.2: which transitions the view has, and which type becomes its type 0.
func TestTransitionsOfView(t *testing.T) {
	for _, x := range []struct {
		times []int64
		want  []int64
		index []uint8
		first uint8 // the type that is exchanged with type 0
	}{
		{nil, nil, nil, 0},
		{[]int64{min4}, []int64{min4}, []uint8{3}, 0},
		{[]int64{max4}, []int64{max4}, []uint8{3}, 0},
		{[]int64{0}, []int64{0}, []uint8{3}, 0},
		{[]int64{min4 - 1}, nil, nil, 3},
		{[]int64{max4 + 1}, nil, nil, 0},
		{[]int64{min8}, nil, nil, 3},
		{[]int64{max8}, nil, nil, 0},
		{[]int64{-1 << 32}, nil, nil, 3},
		{[]int64{1 << 32}, nil, nil, 0},
		{[]int64{min8, max8}, nil, nil, 3},
		{[]int64{min4 - 1, min4}, []int64{min4}, []uint8{2}, 3},
		{[]int64{min4, min4 + 1}, []int64{min4, min4 + 1}, []uint8{3, 2}, 0},
		{[]int64{min4 - 2, min4 - 1}, nil, nil, 2},
		{[]int64{min4 - 2, min4 - 1, min4}, []int64{min4}, []uint8{1}, 2},
		{[]int64{-1 << 50, -1 << 40, 0, 1 << 40}, []int64{0}, []uint8{1}, 2},
		{[]int64{-1 << 50, 0, 1, 2}, []int64{0, 1, 2}, []uint8{2, 1, 3}, 3},
		{[]int64{-1 << 50, 0, 1, 2, 3}, []int64{0, 1, 2, 3}, []uint8{2, 1, 3, 0}, 3},
		{[]int64{-5 << 40, -4 << 40, -3 << 40, -2 << 40, 0}, []int64{0}, []uint8{3}, 0},
		{[]int64{-5 << 40, -4 << 40, -3 << 40, 0, 1}, []int64{0, 1}, []uint8{1, 3}, 1},
		{[]int64{max4 - 1, max4, max4 + 1}, []int64{max4 - 1, max4}, []uint8{3, 2}, 0},
		{[]int64{0, 1, 2, 3, 4}, []int64{0, 1, 2, 3, 4}, []uint8{3, 2, 1, 0, 3}, 0},
	} {
		b := withTimes(x.times...)
		want := full()
		want.Times, want.Index, want.Leaps = x.want, x.index, want.Leaps[:3]
		want.Types[0], want.Types[x.first] = want.Types[x.first], want.Types[0]
		want.Std[0], want.Std[x.first] = want.Std[x.first], want.Std[0]
		want.Ut[0], want.Ut[x.first] = want.Ut[x.first], want.Ut[0]
		checkView(t, b, want)
	}
}

// P22.2, P22.3: indicators of one kind, of both and of none, for every type that
// could be the one just before -2^31.
func TestIndicatorsOfView(t *testing.T) {
	for first := range 4 {
		for kinds := range 4 {
			b := full()
			b.Leaps = nil
			b.Index[1] = uint8(first)
			want := clone(b)
			want.Times, want.Index = []int64{min4, -1000, max4}, [][]uint8{{0, 3, 2}, {1, 3, 2}, {2, 3, 0}, {3, 0, 2}}[first]
			order := [][]int{{0, 1, 2, 3}, {1, 0, 2, 3}, {2, 1, 0, 3}, {3, 1, 2, 0}}[first]
			for i, from := range order {
				want.Types[i], want.Std[i], want.Ut[i] = b.Types[from], b.Std[from], b.Ut[from]
			}
			if kinds&1 == 0 {
				b.Std, want.Std = nil, nil
				clear(b.Ut)
				clear(want.Ut)
			}
			if kinds&2 == 0 {
				b.Ut, want.Ut = nil, nil
			}
			checkView(t, b, want)
		}
	}
}

// P22.2, P22.3: leap second records, also those of version 4, which may start
// with any correction and end in an expiration.
func TestLeapsOfView(t *testing.T) {
	for _, x := range []struct {
		all  []api.Leap
		kept int
	}{
		{nil, 0},
		{[]api.Leap{{At: 0, Corr: 1}}, 1},
		{[]api.Leap{{At: 0, Corr: -1}, {At: spacing, Corr: 0}}, 2},
		{[]api.Leap{{At: max4, Corr: 1}}, 1},
		{[]api.Leap{{At: max4 + 1, Corr: 1}}, 0},
		{[]api.Leap{{At: 1 << 32, Corr: 1}}, 0},
		{[]api.Leap{{At: max8, Corr: -1}}, 0},
		{[]api.Leap{{At: max4 - spacing, Corr: 1}, {At: max4, Corr: 2}, {At: max4 + spacing, Corr: 3}}, 2},
		{[]api.Leap{{At: max4 - spacing + 1, Corr: 1}, {At: max4 + 1, Corr: 2}}, 1},
		{[]api.Leap{{At: 0, Corr: 1}, {At: 1<<32 + 5, Corr: 2}, {At: 1 << 33, Corr: 1}}, 1},
		{[]api.Leap{{At: 5, Corr: 10}, {At: 78796800, Corr: 11}}, 2},
		{[]api.Leap{{At: 5, Corr: 0}, {At: 1 << 31, Corr: 1}}, 1},
		{[]api.Leap{{At: 5, Corr: 10}, {At: 78796800, Corr: 10}}, 2},
		{[]api.Leap{{At: 5, Corr: min4}, {At: 78796800, Corr: min4 + 1}, {At: max4, Corr: min4 + 1}}, 3},
		{[]api.Leap{{At: 5, Corr: max4}, {At: 78796800, Corr: max4 - 1}, {At: max4 + 1, Corr: max4 - 1}}, 2},
		{[]api.Leap{{At: 1 << 40, Corr: 7}, {At: 1 << 41, Corr: 7}}, 0},
	} {
		for _, times := range [][]int64{nil, {-1 << 40}} {
			b := withTimes(times...)
			b.Leaps = x.all
			want := legacy.View(withTimes(times...))
			want.Leaps = x.all[:x.kept]
			checkView(t, b, want)
		}
	}
}

// P22.2, P22.3: 256 types and more, each of them just before -2^31. A type
// beyond 255 has no transition and stays where it is.
func TestAllTypes(t *testing.T) {
	for _, n := range []int{1, 2, 255, 256, 300} {
		b := api.Block{Types: make([]api.Type, n), Chars: []byte{0}, Std: make([]bool, n), Ut: make([]bool, n)}
		for i := range n {
			b.Types[i].Offset = int32(i)
			b.Std[i], b.Ut[i] = i%3 != 0, i%3 == 2
		}
		for i := range min(n, 256) {
			b.Times, b.Index = append(b.Times, int64(i)), append(b.Index, uint8(i))
		}
		for first := range min(n, 256) {
			early := clone(b)
			early.Times, early.Index = slices.Insert(early.Times, 0, min8), slices.Insert(early.Index, 0, uint8(first))
			want := clone(b)
			want.Types[0], want.Types[first] = want.Types[first], want.Types[0]
			want.Std[0], want.Std[first] = want.Std[first], want.Std[0]
			want.Ut[0], want.Ut[first] = want.Ut[first], want.Ut[0]
			want.Index[0], want.Index[first] = uint8(first), 0
			if got := legacy.View(early); !same(got, want) {
				t.Errorf("with %d types, %d being the first: %v, want %v", n, first, got, want)
			}
		}
	}
}

// P22.2: a block that fits in 32 bits and starts with type 0 is its own view,
// whether it has transitions before them to type 0 or none.
func TestOwnView(t *testing.T) {
	fits := full()
	fits.Times, fits.Index, fits.Leaps = fits.Times[2:5], fits.Index[2:5], fits.Leaps[:3]
	for _, b := range []api.Block{slim(), emptied(), fits, {Types: make([]api.Type, 3), Chars: []byte("a\x00")}} {
		checkView(t, b, b)
	}
	early := clone(fits)
	early.Times, early.Index = slices.Insert(early.Times, 0, min8, min4-1), slices.Insert(early.Index, 0, 3, 0)
	checkView(t, early, fits)
}

// viewOf makes the view by the order in which the types stand in it.
func viewOf(b api.Block) api.Block {
	first := 0
	for i, at := range b.Times {
		if at <= min4-1 {
			first = int(b.Index[i])
		}
	}
	order := make([]int, len(b.Types))
	for i := range order {
		order[i] = i
	}
	order[0], order[first] = first, 0
	view := api.Block{Chars: b.Chars}
	for _, from := range order {
		view.Types = append(view.Types, b.Types[from])
		if len(b.Std) > 0 {
			view.Std = append(view.Std, b.Std[from])
		}
		if len(b.Ut) > 0 {
			view.Ut = append(view.Ut, b.Ut[from])
		}
	}
	for i, at := range b.Times {
		if int64(int32(at)) == at {
			view.Times = append(view.Times, at)
			view.Index = append(view.Index, uint8(slices.Index(order, int(b.Index[i]))))
		}
	}
	for _, l := range b.Leaps {
		if int64(int32(l.At)) == l.At {
			view.Leaps = append(view.Leaps, l)
		}
	}
	return view
}

// randomTime lies around a bound or anywhere.
func randomTime(random *rand.Rand) int64 {
	switch random.Intn(4) {
	case 0:
		return min4 + int64(random.Intn(7)-3)
	case 1:
		return max4 + int64(random.Intn(7)-3)
	case 2:
		return int64(int32(random.Uint32()))
	}
	return int64(random.Uint64()) >> random.Intn(40)
}

// randomLeaps makes records that are valid for version 4, around the upper
// bound.
func randomLeaps(random *rand.Rand) []api.Leap {
	var l []api.Leap
	x := api.Leap{At: []int64{0, max4 - 3*spacing, max4 - spacing}[random.Intn(3)], Corr: int32(random.Intn(3) - 1)}
	for range random.Intn(6) {
		l = append(l, x)
		x.At += spacing + int64(random.Intn(2))
		x.Corr += int32(2*random.Intn(2) - 1)
	}
	if n := len(l); n > 1 && random.Intn(3) == 0 {
		l[n-1].Corr = l[n-2].Corr
	}
	return l
}

// randomBlock makes a block that is valid for version 4.
func randomBlock(random *rand.Rand) api.Block {
	b := api.Block{Chars: []byte("LMT\x00EST\x00EDT\x00"), Leaps: randomLeaps(random)}
	n := 1 + random.Intn(5)
	withStd, withUt := random.Intn(2) == 0, random.Intn(2) == 0
	for range n {
		b.Types = append(b.Types, api.Type{Offset: int32(random.Intn(4) * 3600), Dst: random.Intn(2) == 0, Desig: uint8(random.Intn(12))})
		std, ut := random.Intn(2) == 0, random.Intn(2) == 0
		if withStd {
			b.Std = append(b.Std, std)
		}
		if withUt {
			b.Ut = append(b.Ut, withStd && std && ut)
		}
	}
	for range random.Intn(12) {
		b.Times = append(b.Times, randomTime(random))
	}
	slices.Sort(b.Times)
	b.Times = slices.Compact(b.Times)
	for range b.Times {
		b.Index = append(b.Index, uint8(random.Intn(n)))
	}
	return b
}

// P22.1, P22.2, P22.3: random blocks against the model.
func TestRandomBlocks(t *testing.T) {
	random := rand.New(rand.NewSource(22))
	for range 30000 {
		b := randomBlock(random)
		checkView(t, b, viewOf(b))
		for range 3 {
			time := randomTime(random)
			want := 0
			for i, at := range b.Times {
				if at <= time {
					want = int(b.Index[i])
				}
			}
			checkInEffect(t, b, time, want)
		}
		if t.Failed() {
			return
		}
	}
}

// spare returns a copy of list that has unused capacity, all of which holds x.
func spare[T any](list []T, x T) []T {
	room := make([]T, len(list)+3)
	for i := copy(room, list); i < len(room); i++ {
		room[i] = x
	}
	return room[:len(list)]
}

// spacious is full with unused capacity in all lists.
func spacious() api.Block {
	b := full()
	return api.Block{
		Times: spare(b.Times, 77), Index: spare(b.Index, 77), Types: spare(b.Types, api.Type{Offset: 77}), Chars: spare(b.Chars, 77),
		Leaps: spare(b.Leaps, api.Leap{At: 77}), Std: spare(b.Std, true), Ut: spare(b.Ut, true),
	}
}

// roomy returns the lists up to their capacities.
func roomy(b api.Block) api.Block {
	return api.Block{
		Times: b.Times[:cap(b.Times)], Index: b.Index[:cap(b.Index)], Types: b.Types[:cap(b.Types)], Chars: b.Chars[:cap(b.Chars)],
		Leaps: b.Leaps[:cap(b.Leaps)], Std: b.Std[:cap(b.Std)], Ut: b.Ut[:cap(b.Ut)],
	}
}

// overwrite changes all elements of the lists, up to their capacities.
func overwrite(b api.Block) {
	b = roomy(b)
	for i := range b.Times {
		b.Times[i] = 99
	}
	for i := range b.Index {
		b.Index[i] = 99
	}
	for i := range b.Types {
		b.Types[i] = api.Type{Offset: 99, Dst: true, Desig: 99}
	}
	for i := range b.Chars {
		b.Chars[i] = 99
	}
	for i := range b.Leaps {
		b.Leaps[i] = api.Leap{At: 99, Corr: 99}
	}
	for i := range b.Std {
		b.Std[i] = !b.Std[i]
	}
	for i := range b.Ut {
		b.Ut[i] = !b.Ut[i]
	}
}

// P22.4: arguments and the unused capacity behind them stay as they are.
func TestArgumentsStay(t *testing.T) {
	for _, first := range []uint8{0, 1, 2, 3} {
		b, before := spacious(), spacious()
		b.Index[1], before.Index[1] = first, first
		legacy.View(b)
		legacy.InEffect(b, min4)
		legacy.IsSlim(b)
		if !reflect.DeepEqual(roomy(b), roomy(before)) {
			t.Errorf("%v has become %v", roomy(before), roomy(b))
		}
	}
}

// P22.4: a result changes neither with the argument nor with another result,
// nor the other way round.
func TestNoSharedMemory(t *testing.T) {
	for _, first := range []uint8{0, 2} {
		b := spacious()
		b.Index[1] = first
		before := clone(b)
		one, other := legacy.View(b), legacy.View(b)
		want := clone(one)
		overwrite(one)
		if !same(b, before) || !same(other, want) {
			t.Errorf("a view has changed %v to %v and %v to %v", before, b, want, other)
		}
		overwrite(b)
		if !same(other, want) {
			t.Errorf("the argument has changed the view %v to %v", want, other)
		}
	}
	one, other := legacy.Slim(), legacy.Slim()
	overwrite(one)
	if !same(other, slim()) || !same(legacy.Slim(), slim()) || !legacy.IsSlim(slim()) {
		t.Errorf("a slim block has changed another one to %v", other)
	}
}

// P22.1, P22.2: a call has the same result after calls with other arguments.
func TestCallsAreIndependent(t *testing.T) {
	want := legacy.View(full())
	for range 3 {
		legacy.View(withTimes(-1<<40, 0))
		legacy.InEffect(withTimes(0), 5)
		legacy.IsSlim(full())
		if got := legacy.View(full()); !same(got, want) {
			t.Errorf("View(%v) = %v, want %v", full(), got, want)
		}
		checkInEffect(t, full(), 0, 3)
		checkIsSlim(t, slim(), true)
	}
}

// P22.4: blocks that are not valid, for which the chapter promises nothing,
// don't make any call panic.
func TestOtherArgumentsEnd(t *testing.T) {
	for _, b := range []api.Block{
		{},
		{Times: []int64{-1 << 40, 0}},
		{Times: []int64{-1 << 40, 0}, Index: []uint8{7}},
		{Index: []uint8{7}},
		{Times: []int64{-1 << 40, 0}, Index: []uint8{255, 3}, Types: make([]api.Type, 2)},
		{Times: []int64{5, -1 << 40, 5, 3}, Index: []uint8{1, 1, 1, 1}, Types: make([]api.Type, 2)},
		{Times: []int64{-1 << 40}, Index: []uint8{2}, Types: make([]api.Type, 3), Std: make([]bool, 1), Ut: make([]bool, 2)},
		{Times: []int64{-1 << 40}, Index: []uint8{2}, Std: make([]bool, 9)},
		{Leaps: []api.Leap{{At: -1 << 40}, {At: -5}, {At: -6}}},
	} {
		before := clone(b)
		legacy.View(b)
		legacy.IsSlim(b)
		for _, time := range []int64{min8, -1 << 40, min4, 0, max4, max8} {
			legacy.InEffect(b, time)
		}
		if !same(b, before) {
			t.Errorf("%v has become %v", before, b)
		}
	}
}
