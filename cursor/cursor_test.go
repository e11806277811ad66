package cursor_test

import (
	"bytes"
	"encoding/binary"
	"math"
	"slices"
	"testing"

	"zoneinfo/api"
	"zoneinfo/cursor"
)

var widths = []int{1, 4, 8}

// input has bytes with and without the sign bit at every place of a field.
func input() []byte {
	return []byte{0x01, 0x82, 0x03, 0x84, 0xff, 0xff, 0xff, 0xfe, 0x7f, 0x00, 0x80, 0x00, 0x00, 0xc5, 0x16, 0x27, 0xf8, 0x09, 0x9a}
}

// at is a cursor of b at the position pos, without an error.
func at(b []byte, pos int) api.Cursor { return api.Cursor{Data: b, Pos: pos} }

// truncated is what becomes of c when a read asks for too much.
func truncated(c api.Cursor) api.Cursor {
	return api.Cursor{Data: c.Data, Pos: c.Pos, Err: api.ErrTruncated, At: len(c.Data)}
}

// expected decodes one field by encoding/binary, which cursor may not use.
func expected(field []byte) (uint64, int64) {
	switch len(field) {
	case 1:
		return uint64(field[0]), int64(int8(field[0]))
	case 4:
		u := binary.BigEndian.Uint32(field)
		return uint64(u), int64(int32(u))
	}
	u := binary.BigEndian.Uint64(field)
	return u, int64(u)
}

// checkCursor holds Data against each other by address, because every cursor
// of one input shares it.
func checkCursor(t *testing.T, what string, got, want api.Cursor) {
	t.Helper()
	shared := len(got.Data) == len(want.Data) && (len(got.Data) == 0 || &got.Data[0] == &want.Data[0])
	if !shared || got.Pos != want.Pos || got.Err != want.Err || got.At != want.At {
		t.Errorf("%s: cursor %+v, want %+v (Data shared: %v)", what, got, want, shared)
	}
}

func checkTake(t *testing.T, c api.Cursor, n int, part []byte, after api.Cursor) {
	t.Helper()
	got, c2 := cursor.Take(c, n)
	if !bytes.Equal(got, part) {
		t.Errorf("Take(%+v, %d) = % x, want % x", c, n, got, part)
	}
	checkCursor(t, "Take", c2, after)
}

func checkInts(t *testing.T, c api.Cursor, n int, u uint64, s int64, after api.Cursor) {
	t.Helper()
	gotU, c2 := cursor.Uint(c, n)
	if gotU != u {
		t.Errorf("Uint(%+v, %d) = %#x, want %#x", c, n, gotU, u)
	}
	checkCursor(t, "Uint", c2, after)
	gotS, c3 := cursor.Int(c, n)
	if gotS != s {
		t.Errorf("Int(%+v, %d) = %d, want %d", c, n, gotS, s)
	}
	checkCursor(t, "Int", c3, after)
}

// P2.1: the beginning, with and without bytes.
func TestNew(t *testing.T) {
	b := input()
	checkCursor(t, "New", cursor.New(b), at(b, 0))
	checkCursor(t, "New(nil)", cursor.New(nil), at(nil, 0))
	checkCursor(t, "New of no bytes", cursor.New([]byte{}), at(nil, 0))
	c := cursor.New(b[:5])
	if len(c.Data) != 5 {
		t.Errorf("New of 5 bytes has %d bytes", len(c.Data))
	}
}

// P2.1: literal values, independent of any decoder, and the chapter's example.
func TestKnownReads(t *testing.T) {
	b := input()
	checkTake(t, at(b, 0), 3, []byte{0x01, 0x82, 0x03}, at(b, 3))
	checkTake(t, at(b, 17), 2, []byte{0x09, 0x9a}, at(b, 19))
	checkInts(t, at(b, 0), 1, 1, 1, at(b, 1))
	checkInts(t, at(b, 1), 1, 0x82, -126, at(b, 2))
	checkInts(t, at(b, 0), 4, 0x01820384, 0x01820384, at(b, 4))
	checkInts(t, at(b, 4), 4, 0xfffffffe, -2, at(b, 8))
	checkInts(t, at(b, 0), 8, 0x01820384fffffffe, 0x01820384fffffffe, at(b, 8))
	checkInts(t, at(b, 10), 8, 0x800000c51627f809, -0x7fffff3ae9d807f7, at(b, 18))

	short := b[:3:3]
	checkInts(t, at(short, 0), 4, 0, 0, api.Cursor{Data: short, Err: api.ErrTruncated, At: 3})
	checkTake(t, at(short, 0), 4, nil, api.Cursor{Data: short, Err: api.ErrTruncated, At: 3})
}

// P2.1: Take of every number of bytes at every position of inputs of every
// short length.
func TestTakeEverywhere(t *testing.T) {
	for size := range len(input()) + 1 {
		b := input()[:size]
		for pos := range size + 1 {
			c := at(b, pos)
			for n := -3; n <= size+3; n++ {
				if n < 0 || pos+n > size {
					checkTake(t, c, n, nil, truncated(c))
					continue
				}
				checkTake(t, c, n, b[pos:pos+n], at(b, pos+n))
			}
		}
	}
}

// P2.1: fields of every width at every position of inputs of every short
// length.
func TestFieldsEverywhere(t *testing.T) {
	for size := range len(input()) + 1 {
		b := input()[:size]
		for pos := range size + 1 {
			c := at(b, pos)
			for _, n := range widths {
				if pos+n > size {
					checkInts(t, c, n, 0, 0, truncated(c))
					continue
				}
				u, s := expected(b[pos : pos+n])
				checkInts(t, c, n, u, s, at(b, pos+n))
			}
		}
	}
}

// P2.1: no bytes at all, and nothing read of them.
func TestNoBytes(t *testing.T) {
	for _, b := range [][]byte{nil, {}} {
		c := cursor.New(b)
		checkTake(t, c, 0, nil, c)
		checkTake(t, c, 1, nil, truncated(c))
		checkTake(t, c, -1, nil, truncated(c))
		for _, n := range widths {
			checkInts(t, c, n, 0, 0, truncated(c))
		}
		checkCursor(t, "Expect of nothing", cursor.Expect(c, nil, api.ErrMagic), c)
		checkCursor(t, "Expect", cursor.Expect(c, []byte{1}, api.ErrMagic), truncated(c))
		if n := cursor.Rest(c); n != 0 {
			t.Errorf("Rest of no bytes = %d", n)
		}
	}
}

// P2.1: numbers of bytes whose sum with the position would overflow.
func TestFarTooManyBytes(t *testing.T) {
	b := input()
	for _, pos := range []int{0, 1, 7, len(b)} {
		c := at(b, pos)
		for d := range 20 {
			checkTake(t, c, math.MaxInt-d, nil, truncated(c))
			checkTake(t, c, math.MinInt+d, nil, truncated(c))
		}
		checkTake(t, c, 1<<31, nil, truncated(c))
		checkTake(t, c, 1<<32, nil, truncated(c))
		checkTake(t, c, -1<<32, nil, truncated(c))
	}
}

// P2.1: the bytes that remain end with the length of Data, not its capacity.
func TestUnusedCapacityIsNotRead(t *testing.T) {
	b := input()[:4]
	c := at(b, 2)
	checkTake(t, c, 3, nil, truncated(c))
	checkInts(t, c, 4, 0, 0, truncated(c))
	checkInts(t, c, 8, 0, 0, truncated(c))
	checkInts(t, at(b, 4), 1, 0, 0, truncated(at(b, 4)))
	checkCursor(t, "Expect", cursor.Expect(c, []byte{0x03, 0x84, 0xff}, api.ErrMagic), truncated(c))
	if n := cursor.Rest(c); n != 2 {
		t.Errorf("Rest = %d, want 2", n)
	}
}

// P2.2: bytes that are there, at the beginning, in between and at the end.
func TestExpectFinds(t *testing.T) {
	b := input()
	for pos := range len(b) + 1 {
		for n := range len(b) - pos + 1 {
			for _, why := range []api.Errno{api.OK, api.ErrMagic, api.MaxErr} {
				got := cursor.Expect(at(b, pos), slices.Clone(b[pos:pos+n]), why)
				checkCursor(t, "Expect", got, at(b, pos+n))
			}
		}
	}
}

// P2.2: the first byte that differs is told, wherever it is, also if more of
// them differ behind it; the position stays.
func TestExpectDiffers(t *testing.T) {
	b := input()
	for pos := range len(b) {
		for bad := range len(b) - pos {
			for last := bad; last < len(b)-pos; last++ {
				want := slices.Clone(b[pos:])
				want[bad] ^= 0x80
				want[last] ^= 0x40
				c := at(b, pos)
				wrong := api.Cursor{Data: b, Pos: pos, Err: api.ErrReserved, At: pos + bad}
				checkCursor(t, "Expect", cursor.Expect(c, want, api.ErrReserved), wrong)
				checkCursor(t, "Expect with OK", cursor.Expect(c, want, api.OK), c)
			}
		}
	}
}

// P2.2: too few bytes are ErrTruncated, whether those that are there differ or
// not and whatever the reason is.
func TestExpectTruncated(t *testing.T) {
	b := []byte("TZi")
	for _, want := range []string{"TZif", "XZif", "TZ?f", "TZifTZif"} {
		for _, why := range []api.Errno{api.OK, api.ErrMagic, api.ErrTruncated} {
			got := cursor.Expect(at(b, 0), []byte(want), why)
			checkCursor(t, "Expect "+want, got, truncated(at(b, 0)))
		}
	}
	checkCursor(t, "Expect at the end", cursor.Expect(at(b, 3), []byte("f"), api.ErrMagic), truncated(at(b, 3)))
	checkCursor(t, "Expect TZx", cursor.Expect(at(b, 0), []byte("TZx"), api.ErrMagic), api.Cursor{Data: b, Err: api.ErrMagic, At: 2})
}

// P2.2: every reason and any offset, also one outside of Data.
func TestFail(t *testing.T) {
	b := input()
	for _, pos := range []int{0, 5, len(b)} {
		for _, where := range []int{0, 1, pos, len(b), len(b) + 1, -1, math.MaxInt, math.MinInt} {
			c := at(b, pos)
			for why := api.Errno(1); why <= api.MaxErr; why++ {
				checkCursor(t, "Fail", cursor.Fail(c, why, where), api.Cursor{Data: b, Pos: pos, Err: why, At: where})
			}
			for _, why := range []api.Errno{-1, api.MaxErr + 1} {
				checkCursor(t, "Fail", cursor.Fail(c, why, where), api.Cursor{Data: b, Pos: pos, Err: why, At: where})
			}
			checkCursor(t, "Fail with OK", cursor.Fail(c, api.OK, where), c)
		}
	}
}

// P2.2: what remains, at every position.
func TestRest(t *testing.T) {
	b := input()
	for pos := range len(b) + 1 {
		if n := cursor.Rest(at(b, pos)); n != len(b)-pos {
			t.Errorf("Rest at %d of %d = %d", pos, len(b), n)
		}
		for why := api.Errno(1); why <= api.MaxErr; why++ {
			if n := cursor.Rest(api.Cursor{Data: b, Pos: pos, Err: why, At: 3}); n != 0 {
				t.Errorf("Rest at %d of %d with an error = %d", pos, len(b), n)
			}
		}
	}
}

// P2.3: after an error every function returns the cursor as it is, and
// nothing else, whether the read could have succeeded or not.
func TestFirstErrorStays(t *testing.T) {
	b := input()
	for _, pos := range []int{0, 3, len(b)} {
		for why := api.Errno(1); why <= api.MaxErr; why++ {
			for _, where := range []int{0, 4, len(b)} {
				c := api.Cursor{Data: b, Pos: pos, Err: why, At: where}
				for _, n := range []int{-1, 0, 1, 4, 100, math.MinInt, math.MaxInt} {
					checkTake(t, c, n, nil, c)
				}
				for _, n := range widths {
					checkInts(t, c, n, 0, 0, c)
				}
				for _, next := range []api.Errno{api.OK, api.ErrTruncated, api.ErrTrailing, api.ErrFooter} {
					checkCursor(t, "Fail", cursor.Fail(c, next, 7), c)
					checkCursor(t, "Expect of what is there", cursor.Expect(c, b[pos:], next), c)
					checkCursor(t, "Expect of nothing", cursor.Expect(c, nil, next), c)
					checkCursor(t, "Expect of other bytes", cursor.Expect(c, []byte{0x55, 0x55}, next), c)
					checkCursor(t, "Expect of too much", cursor.Expect(c, make([]byte, 50), next), c)
				}
			}
		}
	}
}

// P2.3: successive reads of every kind return the input part by part, and
// after a read that fails nothing more is read.
func TestSuccessiveReads(t *testing.T) {
	b := input()
	c := cursor.New(b)
	first, c := cursor.Take(c, 2)
	one, c := cursor.Uint(c, 1)
	c = cursor.Expect(c, []byte{0x84}, api.ErrMagic)
	none, c := cursor.Take(c, 0)
	four, c := cursor.Int(c, 4)
	eight, c := cursor.Uint(c, 8)
	if !bytes.Equal(first, b[:2]) || one != 3 || len(none) != 0 || four != -2 || eight != 0x7f00800000c51627 {
		t.Errorf("read % x, %#x, % x, %d, %#x", first, one, none, four, eight)
	}
	checkCursor(t, "after 16 bytes", c, at(b, 16))
	if n := cursor.Rest(c); n != 3 {
		t.Errorf("Rest = %d, want 3", n)
	}

	wide, failed := cursor.Uint(c, 4)
	checkCursor(t, "too wide a field", failed, truncated(c))
	last, failed := cursor.Take(failed, 3)
	failed = cursor.Fail(failed, api.ErrFooter, 1)
	failed = cursor.Expect(failed, []byte{0xf8}, api.ErrMagic)
	checkCursor(t, "after the error", failed, truncated(c))
	if wide != 0 || len(last) != 0 {
		t.Errorf("read %#x and % x after the end", wide, last)
	}
	checkTake(t, c, 3, b[16:], at(b, 19))
}

// P2.3: the parts of a whole input, taken in steps of every size, make up the
// input.
func TestPartsMakeUpTheInput(t *testing.T) {
	b := input()
	for step := 1; step <= len(b)+1; step++ {
		var all, part []byte
		c := cursor.New(b)
		for cursor.Rest(c) > 0 {
			part, c = cursor.Take(c, min(step, cursor.Rest(c)))
			all = append(all, part...)
		}
		if !bytes.Equal(all, b) {
			t.Errorf("steps of %d: % x", step, all)
		}
		checkCursor(t, "at the end", c, at(b, len(b)))
	}
}

// P2.4: no function writes to the input, to the unused capacity behind it, or
// to the bytes that are expected.
func TestArgumentsStay(t *testing.T) {
	whole := append(input(), input()...)
	before := slices.Clone(whole)
	b := whole[:19]
	want := []byte{0x01, 0x82, 0x99, 0x84, 0x77}
	for pos := range len(b) + 1 {
		for _, c := range []api.Cursor{cursor.New(b), at(b, pos), {Data: b, Pos: pos, Err: api.ErrLeap, At: 2}} {
			for _, n := range []int{-1, 0, 1, 4, 8, 19, 25} {
				part, _ := cursor.Take(c, n)
				_ = append(part, 0x5a)
			}
			for _, n := range widths {
				cursor.Uint(c, n)
				cursor.Int(c, n)
			}
			for n := range len(want) {
				cursor.Expect(c, want[:n], api.ErrMagic)
			}
			cursor.Fail(c, api.ErrMagic, 1)
			cursor.Rest(c)
		}
	}
	if !bytes.Equal(whole, before) {
		t.Errorf("the input became % x", whole)
	}
	if !bytes.Equal(want, []byte{0x01, 0x82, 0x99, 0x84, 0x77}) {
		t.Errorf("the expected bytes became % x", want)
	}
}

// P2.4: bytes that were taken are memory of their own; the cursor shares Data.
func TestTakenBytesShareNothing(t *testing.T) {
	b := input()
	c := cursor.New(b)
	for _, n := range []int{1, 4, len(b)} {
		one, after := cursor.Take(c, n)
		two, _ := cursor.Take(c, n)
		checkCursor(t, "Take", after, at(b, n))
		for i := range one {
			one[i] ^= 0x5a
		}
		if !bytes.Equal(b, input()) {
			t.Fatalf("a change of %d bytes that were taken changed the input to % x", n, b)
		}
		if !bytes.Equal(two, input()[:n]) {
			t.Errorf("a change of %d bytes that were taken changed others to % x", n, two)
		}
		b[0]++
		if two[0] != 0x01 {
			t.Errorf("a change of the input changed %d bytes that were taken", n)
		}
		b[0]--
	}
	b[0] = 0x66
	if v, _ := cursor.Uint(c, 1); v != 0x66 {
		t.Errorf("the cursor does not share Data: read %#x", v)
	}
}

// Cursors that are not valid and other widths are left open by the chapter:
// every call ends without a panic, and does not read what is not there.
func TestUnspecifiedCallsEnd(t *testing.T) {
	b := input()[:5]
	for _, pos := range []int{math.MinInt, -1, 6, 19, 20, math.MaxInt} {
		c := at(b, pos)
		for _, n := range []int{math.MinInt, -1, 0, 1, 4, 8, math.MaxInt} {
			checkTake(t, c, n, nil, truncated(c))
			checkInts(t, c, n, 0, 0, truncated(c))
		}
		for _, want := range [][]byte{nil, {0x01}, make([]byte, 30)} {
			checkCursor(t, "Expect", cursor.Expect(c, want, api.ErrMagic), truncated(c))
		}
		cursor.Rest(c)
		cursor.Fail(c, api.ErrMagic, 0)
	}
	for _, n := range []int{math.MinInt, -8, -1, 0, 2, 3, 5, 7, 9, 16, math.MaxInt} {
		c := at(b, 0)
		checkInts(t, c, n, 0, 0, truncated(c))
	}
}
