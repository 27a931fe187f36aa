package integer

import (
	"math/bits"
	"slices"
)

// divide returns the quotient and the remainder of a and b, for b > 0.
func divide(a, b []uint32) ([]uint32, []uint32) {
	switch {
	case compare(a, b) < 0:
		return nil, a
	case len(a) <= 2:
		x, y := toWord(a), toWord(b)
		return fromWord(x / y), fromWord(x % y)
	case len(b) == 1:
		q := slices.Clone(a)
		r := shorten(q, b[0])
		return trim(q), fromWord(uint64(r))
	}
	return divideLong(a, b)
}

// shorten divides m by d in place, and returns the remainder.
func shorten(m []uint32, d uint32) uint32 {
	var rest uint64
	for i := len(m) - 1; i >= 0; i-- {
		rest = rest<<32 | uint64(m[i])
		m[i] = uint32(rest / uint64(d))
		rest %= uint64(d)
	}
	return uint32(rest)
}

// divideLong returns the quotient and the remainder of a and b, for b of at least two limbs and a >= b, by Knuth's algorithm D.
func divideLong(a, b []uint32) ([]uint32, []uint32) {
	// Guessed digits are at most 2 too large only if the highest bit of the divisor is set.
	h := bits.LeadingZeros32(b[len(b)-1])
	r, d := shiftLeft(a, h), trim(shiftLeft(b, h))
	q := make([]uint32, len(a)-len(b)+1)
	for i := len(q) - 1; i >= 0; i-- {
		part := r[i : i+len(d)+1]
		digit := guess(part, d)
		if subtractMultiple(part, d, digit) {
			digit--
			addBack(part, d)
		}
		q[i] = digit
	}
	return trim(q), trim(shiftRight(r, h))
}

// guess returns the quotient of part and d, or one more. It is given one limb more in part than in d, and part < 2^32 d.
func guess(part, d []uint32) uint32 {
	n := len(d)
	top := uint64(part[n])<<32 | uint64(part[n-1])
	first, second := uint64(d[n-1]), uint64(d[n-2])
	q, r := top/first, top%first
	for q > 1<<32-1 || q*second > r<<32|uint64(part[n-2]) {
		q--
		r += first
		if r > 1<<32-1 {
			// The right side of the comparison is now too large for it to hold.
			break
		}
	}
	return uint32(q)
}

// subtractMultiple subtracts d times digit from part in place, and reports whether the result is negative (part is then 2^32 to the power of its length too large).
func subtractMultiple(part, d []uint32, digit uint32) bool {
	var carry, borrow uint64
	for i, x := range d {
		carry += uint64(digit) * uint64(x)
		t := uint64(part[i]) - carry&(1<<32-1) - borrow
		part[i] = uint32(t)
		borrow = t >> 63
		carry >>= 32
	}
	t := uint64(part[len(d)]) - carry - borrow
	part[len(d)] = uint32(t)
	return t>>63 == 1
}

// addBack adds d to part in place, and drops the carry, which makes up for a negative difference.
func addBack(part, d []uint32) {
	var carry uint64
	for i, x := range d {
		carry += uint64(part[i]) + uint64(x)
		part[i] = uint32(carry)
		carry >>= 32
	}
	part[len(d)] += uint32(carry)
}

// shiftLeft returns m times 2^h, for h < 32, in new memory with one limb more than m, which may be 0.
func shiftLeft(m []uint32, h int) []uint32 {
	out := make([]uint32, len(m)+1)
	var carry uint64
	for i, x := range m {
		carry |= uint64(x) << h
		out[i] = uint32(carry)
		carry >>= 32
	}
	out[len(m)] = uint32(carry)
	return out
}

// shiftRight returns m divided by 2^h, for h < 32, with as many limbs as m.
func shiftRight(m []uint32, h int) []uint32 {
	out := make([]uint32, len(m))
	for i := range m {
		out[i] = uint32((uint64(limb(m, i+1))<<32 | uint64(m[i])) >> h)
	}
	return out
}
