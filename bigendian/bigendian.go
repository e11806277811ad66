// Package bigendian reads and writes big-endian integers of 1, 4 and 8 bytes.
// It is layer 1: see shared/doc/01-bigendian.md.
package bigendian

// isWidth is asked before anything is computed from n, because the chapter
// leaves other widths open and they would make shift counts negative.
func isWidth(n int) bool { return n == 1 || n == 4 || n == 8 }

// exists compares off with len(b)-n because off+n may overflow.
func exists(b []byte, off, n int) bool {
	return isWidth(n) && off >= 0 && off <= len(b)-n
}

// signed moves the field's sign bit to the top, so that the arithmetic shift
// back extends it.
func signed(u uint64, n int) int64 {
	unused := 64 - 8*n
	return int64(u<<unused) >> unused
}

// Uint returns the unsigned value of the field of n bytes at off, or false if
// there is no such field.
func Uint(b []byte, off, n int) (uint64, bool) {
	if !exists(b, off, n) {
		return 0, false
	}
	var u uint64
	for i := range n {
		u = u<<8 | uint64(b[off+i])
	}
	return u, true
}

// Int returns the signed value of the field of n bytes at off, or false if
// there is no such field.
func Int(b []byte, off, n int) (int64, bool) {
	u, ok := Uint(b, off, n)
	if !ok {
		return 0, false
	}
	return signed(u, n), true
}

// Append returns b followed by the low n bytes of v. The result is always new
// memory, because callers may still use the unused capacity of b.
func Append(b []byte, n int, v uint64) []byte {
	if !isWidth(n) {
		n = 0
	}
	out := make([]byte, len(b), len(b)+n)
	copy(out, b)
	for i := range n {
		out = append(out, byte(v>>(8*(n-1-i))))
	}
	return out
}

// Fits reports whether a field of n bytes has room for the signed value v.
func Fits(v int64, n int) bool {
	return isWidth(n) && signed(uint64(v), n) == v
}
