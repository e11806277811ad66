package indicators_test

import (
	"bytes"
	"math/rand"
	"slices"
	"testing"

	"zoneinfo/indicators"
)

func checkDecode(t *testing.T, b []byte, want []bool) {
	t.Helper()
	if got, ok := indicators.Decode(b); !slices.Equal(got, want) || !ok {
		t.Errorf("Decode(% x) = %v, %v, want %v, true", b, got, ok, want)
	}
}

func checkNotDecoded(t *testing.T, b []byte) {
	t.Helper()
	if got, ok := indicators.Decode(b); got != nil || ok {
		t.Errorf("Decode(% x) = %v, %v, want nil, false", b, got, ok)
	}
}

func checkEncode(t *testing.T, l []bool, want []byte) {
	t.Helper()
	if got := indicators.Encode(l); !bytes.Equal(got, want) {
		t.Errorf("Encode(%v) = % x, want % x", l, got, want)
	}
}

// checkBoth checks that b encodes the indicators, in both directions.
func checkBoth(t *testing.T, l []bool, b []byte) {
	t.Helper()
	checkEncode(t, l, b)
	checkDecode(t, b, l)
}

func checkConsistent(t *testing.T, std, ut []bool, want bool) {
	t.Helper()
	if got := indicators.Consistent(std, ut); got != want {
		t.Errorf("Consistent(%v, %v) = %v, want %v", std, ut, got, want)
	}
}

// array reads indicators from a text of one sign each, where x is a set one.
func array(signs string) []bool {
	var l []bool
	for _, sign := range signs {
		l = append(l, sign == 'x')
	}
	return l
}

// arrays returns all arrays of at most n indicators.
func arrays(n int) [][]bool {
	var all [][]bool
	for length := range n + 1 {
		for set := range 1 << length {
			l := make([]bool, length)
			for i := range l {
				l[i] = set>>i&1 == 1
			}
			all = append(all, l)
		}
	}
	return all
}

// randomArray makes up to 40 indicators.
func randomArray(random *rand.Rand) []bool {
	l := make([]bool, random.Intn(40))
	for i := range l {
		l[i] = random.Intn(2) == 1
	}
	return l
}

// P18.1: the chapter's example.
func TestExample(t *testing.T) {
	checkDecode(t, []byte{1, 0}, []bool{true, false})
	checkEncode(t, []bool{true, false}, []byte{1, 0})
}

// P18.1: no indicators are no bytes.
func TestNone(t *testing.T) {
	checkDecode(t, nil, nil)
	checkDecode(t, []byte{}, nil)
	checkEncode(t, nil, nil)
	checkEncode(t, []bool{}, nil)
}

// P18.1: of single bytes only 0 and 1 are indicators.
func TestEverySingleByte(t *testing.T) {
	checkBoth(t, []bool{false}, []byte{0})
	checkBoth(t, []bool{true}, []byte{1})
	for value := 2; value < 256; value++ {
		checkNotDecoded(t, []byte{byte(value)})
	}
}

// P18.1: arrays of which all indicators are alike.
func TestAlike(t *testing.T) {
	for n := range 300 {
		checkBoth(t, make([]bool, n), make([]byte, n))
		checkBoth(t, slices.Repeat([]bool{true}, n), bytes.Repeat([]byte{1}, n))
	}
}

// P18.1: mixed arrays, byte by byte.
func TestMixed(t *testing.T) {
	checkBoth(t, []bool{false, true}, []byte{0, 1})
	checkBoth(t, []bool{true, true, false}, []byte{1, 1, 0})
	checkBoth(t, []bool{false, true, true, false, true}, []byte{0, 1, 1, 0, 1})
	checkBoth(t, []bool{true, false, false, false, true, false, true, true}, []byte{1, 0, 0, 0, 1, 0, 1, 1})
	for n := range 20 {
		for place := range n {
			b, l := make([]byte, n), make([]bool, n)
			b[place], l[place] = 1, true
			checkBoth(t, l, b)
			b, l = bytes.Repeat([]byte{1}, n), slices.Repeat([]bool{true}, n)
			b[place], l[place] = 0, false
			checkBoth(t, l, b)
		}
	}
}

// P18.1: one byte that is no indicator, at each place, whatever the others are.
func TestOneWrongByte(t *testing.T) {
	for _, good := range []string{"\x00\x00\x00\x00\x00", "\x01\x01\x01\x01\x01", "\x00\x01\x01\x00\x01", "\x01\x00", "\x00\x01", "\x01"} {
		for place := range good {
			for value := range 256 {
				b := []byte(good)
				b[place] = byte(value)
				if value > 1 {
					checkNotDecoded(t, b)
				} else if _, ok := indicators.Decode(b); !ok {
					t.Errorf("% x are not decoded", b)
				}
			}
		}
	}
}

// P18.1: several bytes that are no indicators.
func TestWrongBytes(t *testing.T) {
	wrong := []byte{2, 3, 16, 127, 128, 129, 254, 255}
	for _, value := range wrong {
		for set := 1; set < 1<<5; set++ {
			b := []byte{0, 1, 0, 0, 1}
			for place := range b {
				if set>>place&1 == 1 {
					b[place] = value
				}
			}
			checkNotDecoded(t, b)
		}
		checkNotDecoded(t, []byte{value, 0, 1, wrong[0]})
		checkNotDecoded(t, []byte{wrong[7], 1, value})
	}
	checkNotDecoded(t, []byte("01"))
}

// P18.1: what lies behind the bytes in their array is not decoded.
func TestBytesBehindAreNotDecoded(t *testing.T) {
	b := []byte{1, 0, 2}
	checkDecode(t, b[:2], []bool{true, false})
	checkDecode(t, b[:0], nil)
	checkNotDecoded(t, b)
	l := []bool{true, false, true}
	checkEncode(t, l[:2], []byte{1, 0})
	checkEncode(t, l[:0], nil)
}

// P18.1: the encoding of two arrays behind each other is the one encoding
// behind the other.
func TestConcatenation(t *testing.T) {
	for _, first := range arrays(4) {
		for _, second := range arrays(4) {
			b := slices.Concat(indicators.Encode(first), indicators.Encode(second))
			checkBoth(t, slices.Concat(first, second), b)
		}
	}
}

// P18.2: pairs of arrays, those of different lengths among them.
func TestConsistent(t *testing.T) {
	for _, x := range []struct {
		std, ut string
		want    bool
	}{
		{"", "", true},
		{"x", "x", true},
		{"x", ".", true},
		{".", ".", true},
		{".", "x", false},
		// std is longer.
		{"x", "", true},
		{".", "", true},
		{"xx", "x", true},
		{"x.", "x", true},
		{".x", "x", false},
		{"..", ".", true},
		{".xxx", ".", true},
		{"x.x.", "x.x", true},
		{"x...", "x.x", false},
		// std is shorter.
		{"", "x", false},
		{"", ".", true},
		{"", "...", true},
		{"", "..x", false},
		{"x", "x.", true},
		{"x", "xx", false},
		{"x", ".x", false},
		{".", "..", true},
		{".", ".x", false},
		{"xxx", "xxx.....", true},
		{"xxx", "xxx....x", false},
		{"xxx", "...x....", false},
		{"x.x", "x.x...", true},
		{"x.x", "xx....", false},
		// They are of one length.
		{"xxxx", "xxxx", true},
		{"xxxx", "....", true},
		{"....", "....", true},
		{"....", "xxxx", false},
		{"x.x.", "x.x.", true},
		{"x.x.", ".x.x", false},
		{".xxx", "x...", false},
		{"xxx.", "...x", false},
		{"xx.x", "..x.", false},
		{"xx.x", "xx.x", true},
		{"xx.x", ".x..", true},
	} {
		checkConsistent(t, array(x.std), array(x.ut), x.want)
	}
	checkConsistent(t, []bool{}, nil, true)
	checkConsistent(t, nil, []bool{}, true)
	checkConsistent(t, []bool{}, []bool{true}, false)
}

// isConsistent is the definition, read backwards: no place is set in ut alone.
func isConsistent(std, ut []bool) bool {
	longer := slices.Concat(std, make([]bool, len(ut)))
	alone := 0
	for i := range ut {
		if ut[i] && !longer[i] {
			alone++
		}
	}
	return alone == 0
}

// P18.2: all pairs of arrays of up to five indicators, against the definition.
func TestConsistentOfAllShortPairs(t *testing.T) {
	for _, std := range arrays(5) {
		for _, ut := range arrays(5) {
			checkConsistent(t, std, ut, isConsistent(std, ut))
		}
	}
}

// P18.2: one set indicator of ut that std does not have, at each place.
func TestConsistentEachPlace(t *testing.T) {
	for n := 1; n < 40; n++ {
		full := slices.Repeat([]bool{true}, n)
		checkConsistent(t, full, full, true)
		for place := range n {
			std, ut := slices.Clone(full), make([]bool, n)
			std[place], ut[place] = false, true
			checkConsistent(t, full, ut, true)
			checkConsistent(t, std, ut, false)
			checkConsistent(t, std, full, false)
			checkConsistent(t, full[:place], ut, false)
			checkConsistent(t, full[:place+1], ut, true)
			checkConsistent(t, std, make([]bool, n), true)
		}
	}
}

// P18.2: what lies behind the arrays' ends does not count.
func TestConsistentBehindTheEnd(t *testing.T) {
	std, ut := array("xxxx"), array("x.xx")
	checkConsistent(t, std[:2], ut, false)
	checkConsistent(t, std[:2], ut[:2], true)
	checkConsistent(t, std[:0], ut[:1], false)
	checkConsistent(t, std[:0], ut[:0], true)
	std = array("x...")
	checkConsistent(t, std, ut[:2], true)
	checkConsistent(t, std, ut[:3], false)
}

// P18.3: decoding the encoding returns the array.
func TestArraysComeBack(t *testing.T) {
	for _, l := range arrays(8) {
		checkDecode(t, indicators.Encode(l), l)
	}
	random := rand.New(rand.NewSource(18))
	for range 500 {
		l := randomArray(random)
		checkDecode(t, indicators.Encode(l), l)
	}
}

// P18.3: encoding what was decoded returns the bytes, and exactly the bytes
// other than 0 and 1 are not decoded.
func TestBytesComeBack(t *testing.T) {
	random := rand.New(rand.NewSource(183))
	for n := range 40 {
		for range 100 {
			b := make([]byte, n)
			want := true
			for i := range b {
				b[i] = byte(random.Intn(2))
				if random.Intn(50) == 0 {
					b[i] = byte(random.Intn(256))
				}
				want = want && b[i] <= 1
			}
			if !want {
				checkNotDecoded(t, b)
				continue
			}
			l, ok := indicators.Decode(b)
			if !ok {
				t.Errorf("% x are not decoded", b)
			}
			checkEncode(t, l, b)
		}
	}
}

// P18.1, P18.2, P18.3: a long array, all indicators of which count.
func TestLongArray(t *testing.T) {
	l := make([]bool, 1<<20)
	for i := range l {
		l[i] = i%3 == 0 || i%7 == 1
	}
	b := indicators.Encode(l)
	if got, ok := indicators.Decode(b); !ok || !slices.Equal(got, l) {
		t.Errorf("%d indicators do not come back", len(l))
	}
	ut := slices.Clone(l)
	if !indicators.Consistent(l, ut) {
		t.Error("equal arrays are not consistent")
	}
	last := len(l) - 1
	l[last], ut[last] = false, true
	if indicators.Consistent(l, ut) {
		t.Error("arrays are consistent though the last indicator of ut stands alone")
	}
	b[last] = 2
	if got, ok := indicators.Decode(b); got != nil || ok {
		t.Errorf("%d bytes, of which the last is wrong, are decoded: %d, %v", len(b), len(got), ok)
	}
}

// P18.4: the arguments, and what lies behind them in their arrays, stay.
func TestArgumentsStay(t *testing.T) {
	allFlags, allBytes := array("x..xx.x"), []byte{1, 0, 0, 1, 2, 255, 1, 0}
	l, other, b := slices.Clone(allFlags), slices.Clone(allFlags), bytes.Clone(allBytes)
	for n := range len(l) + 1 {
		indicators.Encode(l[:n])
		indicators.Decode(b[:n])
		indicators.Decode(b[n:])
		for m := range len(l) + 1 {
			indicators.Consistent(l[:n], other[:m])
			indicators.Consistent(l[n:], other[:m])
		}
	}
	if !slices.Equal(l, allFlags) || !slices.Equal(other, allFlags) {
		t.Errorf("the arrays have become %v, %v", l, other)
	}
	if !bytes.Equal(b, allBytes) {
		t.Errorf("the bytes have become % x", b)
	}
}

// P18.4: a call changes nothing that a later one tells.
func TestCallsAreIndependent(t *testing.T) {
	for range 3 {
		checkNotDecoded(t, []byte{1, 1, 2})
		checkDecode(t, []byte{0, 0, 1}, []bool{false, false, true})
		checkEncode(t, []bool{false, false, true}, []byte{0, 0, 1})
		checkConsistent(t, []bool{true}, []bool{true}, true)
		checkConsistent(t, []bool{false}, []bool{true}, false)
	}
}

// P18.4: neither do changes of an argument reach a result, nor those of a
// result an argument or another result.
func TestNoSharedMemory(t *testing.T) {
	original, encoded := array("x..x"), []byte{1, 0, 0, 1}
	room := append(make([]bool, 0, 16), original...)
	b, other := indicators.Encode(room), indicators.Encode(room)
	clear(room[:cap(room)])
	if !bytes.Equal(b, encoded) {
		t.Errorf("changed indicators change their encoding to % x", b)
	}
	for i := range b[:cap(b)] {
		b[:cap(b)][i] = 0xee
	}
	if slices.Contains(room[:cap(room)], true) || !bytes.Equal(other, encoded) {
		t.Errorf("a changed encoding changes its indicators to %v, another encoding to % x", room, other)
	}

	source := append(make([]byte, 0, 16), encoded...)
	decoded, _ := indicators.Decode(source)
	again, _ := indicators.Decode(source)
	clear(source[:cap(source)])
	if !slices.Equal(decoded, original) {
		t.Errorf("changed bytes change their indicators to %v", decoded)
	}
	for i := range decoded[:cap(decoded)] {
		decoded[:cap(decoded)][i] = true
	}
	if !bytes.Equal(source[:cap(source)], make([]byte, cap(source))) || !slices.Equal(again, original) {
		t.Errorf("changed indicators change their bytes to % x, other indicators to %v", source, again)
	}
}
