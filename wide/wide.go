// Package wide is layer 1: whole numbers of 128 bits: see shared/doc/01-wide.md.
package wide

import (
	"math/bits"

	"incline/api"
)

// Of is n itself.
func Of(n int64) api.Int {
	return api.Int{Hi: n >> 63, Lo: uint64(n)}
}

// Times is a times b. It never wraps: a is at least -2^63 and b below 2^64.
func Times(a int64, b uint64) api.Int {
	hi, lo := bits.Mul64(uint64(a), b)
	if a < 0 {
		hi -= b // uint64(a) is 2^64 above a, which made the product b * 2^64 too great
	}
	return api.Int{Hi: int64(hi), Lo: lo}
}

// Add is a + b, modulo 2^128.
func Add(a, b api.Int) api.Int {
	lo, carry := bits.Add64(a.Lo, b.Lo, 0)
	hi, _ := bits.Add64(uint64(a.Hi), uint64(b.Hi), carry)
	return api.Int{Hi: int64(hi), Lo: lo}
}

// Sub is a - b, modulo 2^128.
func Sub(a, b api.Int) api.Int {
	lo, borrow := bits.Sub64(a.Lo, b.Lo, 0)
	hi, _ := bits.Sub64(uint64(a.Hi), uint64(b.Hi), borrow)
	return api.Int{Hi: int64(hi), Lo: lo}
}

// Neg is -a, modulo 2^128: so -2^127 is its own.
func Neg(a api.Int) api.Int {
	return Sub(api.Int{}, a)
}

// Cmp is -1, 0 or 1: a below b, the same, above.
func Cmp(a, b api.Int) int {
	if a == b {
		return 0
	}
	if a.Hi < b.Hi || a.Hi == b.Hi && a.Lo < b.Lo {
		return -1
	}
	return 1
}

// Div is the quotient, rounded down, and the rest, which is never below 0.
func Div(a api.Int, d uint64) (api.Int, uint64, api.Errno) {
	if d == 0 {
		return api.Int{}, 0, api.ErrWideZero
	}
	if a.Hi >= 0 {
		q, r := divide(a, d)
		return q, r, api.OK
	}
	// -1 - a is never beyond, as -a can be; and where it is p * d + s, a is (-1 - p) * d + (d - 1 - s).
	p, s := divide(flip(a), d)
	return flip(p), d - 1 - s, api.OK
}

// flip is -1 - a: every bit turned.
func flip(a api.Int) api.Int {
	return api.Int{Hi: ^a.Hi, Lo: ^a.Lo}
}

// divide is Div where a is 0 or more and d is not 0.
func divide(a api.Int, d uint64) (api.Int, uint64) {
	hi := uint64(a.Hi)
	lo, rest := bits.Div64(hi%d, a.Lo, d) // hi%d is below d, which Div64 asks for
	return api.Int{Hi: int64(hi / d), Lo: lo}, rest
}
