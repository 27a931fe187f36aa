// Package integer is layer 1: the arithmetic of integers of any size; see shared/doc/01-integer.md.
package integer

import (
	"math"
	"math/bits"

	"quadrature/api"
)

// Of returns n.
func Of(n int64) api.Int {
	size := uint64(n)
	if n < 0 {
		// The wraparound makes this right for the smallest int64, too.
		size = -size
	}
	return build(n < 0, fromWord(size))
}

// Valid reports whether a is the one representation of its value.
func Valid(a api.Int) bool {
	if len(a.Mag) == 0 {
		return !a.Neg
	}
	return a.Mag[len(a.Mag)-1] != 0
}

// Small returns a as an int64, and whether it is one.
func Small(a api.Int) (int64, bool) {
	neg, m := parts(a)
	if len(m) > 2 {
		return 0, false
	}
	size := toWord(m)
	switch {
	case size <= math.MaxInt64 && neg:
		return -int64(size), true
	case size <= math.MaxInt64:
		return int64(size), true
	case neg && size == 1<<63:
		return math.MinInt64, true
	}
	return 0, false
}

// Cmp returns -1 if a < b, 0 if a = b, and 1 if a > b.
func Cmp(a, b api.Int) int {
	aNeg, am := parts(a)
	bNeg, bm := parts(b)
	switch {
	case aNeg && bNeg:
		return compare(bm, am)
	case aNeg:
		return -1
	case bNeg:
		return 1
	}
	return compare(am, bm)
}

// Sign returns -1, 0 or 1 if a is negative, zero or positive.
func Sign(a api.Int) int {
	neg, m := parts(a)
	switch {
	case neg:
		return -1
	case len(m) == 0:
		return 0
	}
	return 1
}

// Neg returns -a.
func Neg(a api.Int) api.Int { return build(!a.Neg, a.Mag) }

// Add returns a + b.
func Add(a, b api.Int) api.Int {
	aNeg, am := parts(a)
	bNeg, bm := parts(b)
	if aNeg == bNeg {
		return build(aNeg, sum(am, bm))
	}
	if compare(am, bm) < 0 {
		return build(bNeg, difference(bm, am))
	}
	return build(aNeg, difference(am, bm))
}

// Sub returns a - b.
func Sub(a, b api.Int) api.Int { return Add(a, Neg(b)) }

// Mul returns a b.
func Mul(a, b api.Int) api.Int {
	aNeg, am := parts(a)
	bNeg, bm := parts(b)
	return build(aNeg != bNeg, product(am, bm))
}

// Pow returns the n-th power of a, for n from 0 to 256.
func Pow(a api.Int, n int) (api.Int, api.Errno) {
	if n < 0 || n > api.MaxPow {
		return api.Int{}, api.ErrArg
	}
	p := Of(1)
	// From the highest bit down, only squares are big times big, and none of them is superfluous.
	for i := bits.Len(uint(n)); i > 0; i-- {
		p = Mul(p, p)
		if n>>(i-1)&1 == 1 {
			p = Mul(p, a)
		}
	}
	return p, api.OK
}

// DivMod returns q and r with a = q b + r and 0 <= r < |b|.
func DivMod(a, b api.Int) (api.Int, api.Int, api.Errno) {
	aNeg, am := parts(a)
	bNeg, bm := parts(b)
	if len(bm) == 0 {
		return api.Int{}, api.Int{}, api.ErrZero
	}
	q, r := divide(am, bm)
	if aNeg && len(r) > 0 {
		// -(q |b| + r) = -(q + 1) |b| + (|b| - r), whose remainder is not negative.
		q, r = sum(q, []uint32{1}), difference(bm, r)
	}
	return build(aNeg != bNeg, q), build(false, r), api.OK
}

// Gcd returns the greatest common divisor of a and b, which is not negative.
func Gcd(a, b api.Int) api.Int {
	_, am := parts(a)
	_, bm := parts(b)
	return build(false, divisor(am, bm))
}

// parts returns the sign and the limbs of a, those of its value even if a is not valid.
func parts(a api.Int) (bool, []uint32) {
	m := trim(a.Mag)
	return a.Neg && len(m) > 0, m
}

// build returns the valid integer with the given sign and limbs.
func build(neg bool, m []uint32) api.Int {
	m = trim(m)
	if len(m) == 0 {
		return api.Int{}
	}
	return api.Int{Neg: neg, Mag: m}
}
