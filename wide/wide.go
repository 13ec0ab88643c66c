// Package wide is layer 1: see shared/doc/01-wide.md.
package wide

import "horologe/api"

// Small tells whether all the numbers are from -Most to Most.
func Small(l ...int) bool {
	for _, n := range l {
		if n < -api.Most || n > api.Most {
			return false
		}
	}
	return true
}

// Add is a + b; Sub is a - b; Mul is a b: each with false, if a number is not small.
func Add(a, b int) (int, bool) {
	if !Small(a, b) {
		return 0, false
	}
	// 2^62 + 2^62 wraps round to -2^63, but that is not small either.
	return checked(a + b)
}

func Sub(a, b int) (int, bool) {
	if !Small(a, b) {
		return 0, false
	}
	// It wraps round at 2^63 alone, as in Add.
	return checked(a - b)
}

func Mul(a, b int) (int, bool) { return Floor(a, b, 1) }

// Floor is a b / c, rounded down; Ceil is it rounded up: each with false, if a number is not small, or c is below 1.
func Floor(a, b, c int) (int, bool) {
	if !Small(a, b, c) || c < 1 {
		return 0, false
	}
	size, rest, ok := divide(product(Abs(a), Abs(b)), uint64(c))
	if !ok {
		return 0, false
	}
	n := int(size)
	if (a < 0) != (b < 0) {
		n = -n
		// What was cut off brought the number nearer to 0, which is up on this side.
		if rest > 0 {
			n--
		}
	}
	return checked(n)
}

func Ceil(a, b, c int) (int, bool) {
	// The one int whose sign can't be turned is not small, before as behind: Floor refuses it.
	n, ok := Floor(-a, b, c)
	return -n, ok
}

// Abs is a small number without its sign, and 0 for others.
func Abs(a int) int {
	if !Small(a) {
		return 0
	}
	if a < 0 {
		return -a
	}
	return a
}

// Clip is a, brought within bounds: low is asked first, so it holds where the bounds are crossed.
func Clip(a, low, high int) int {
	if a < low {
		return low
	}
	if a > high {
		return high
	}
	return a
}

func checked(n int) (int, bool) {
	if !Small(n) {
		return 0, false
	}
	return n, true
}
