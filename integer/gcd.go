package integer

import "math/bits"

// steps are some steps of Euclid's algorithm at once: they replace a and b by |a0 a - b0 b| and |a1 a - b1 b|. Without the bars, the first one of these is negative if the number of steps is odd, the second one if it is even.
type steps struct {
	a0, b0 uint64
	a1, b1 uint64
	odd    bool
}

// divisor returns the greatest common divisor of a and b, by Lehmer's variant of Euclid's algorithm: most of the quotients are found from the leading 64 bits of the numbers, so that long numbers are gone through once for many divisions.
func divisor(a, b []uint32) []uint32 {
	if compare(a, b) < 0 {
		a, b = b, a
	}
	for len(b) > 2 {
		s := simulate(a, b)
		if s.b0 == 0 {
			_, r := divide(a, b)
			a, b = b, r
		} else {
			a, b = s.apply(a, b)
		}
	}
	if len(b) == 0 {
		return a
	}
	_, r := divide(a, b)
	return fromWord(wordDivisor(toWord(b), toWord(r)))
}

// wordDivisor returns the greatest common divisor of a and b.
func wordDivisor(a, b uint64) uint64 {
	for b != 0 {
		a, b = b, a%b
	}
	return a
}

// simulate returns the steps that the leading 64 bits of a determine, for a >= b of at least three limbs; its b0 is 0 if there are none.
func simulate(a, b []uint32) steps {
	h := bits.LeadingZeros32(a[len(a)-1])
	x, y := leading(a, len(a), h), leading(b, len(a), h)
	// A round adds the step before its own, for its own one is right only if the next round comes about: the first round adds none.
	s := steps{a1: 1, odd: true}
	var a2, b2 uint64 = 0, 1
	// Collins' condition: the quotient of x and y is the one of the whole numbers. It keeps the factors below 2^32, because x b2 is less than 2^64, and b2 <= y < x.
	for y >= b2 && x-y >= s.b1+b2 {
		q := x / y
		x, y = y, x%y
		s.a0, s.a1, a2 = s.a1, a2, s.a1+q*a2
		s.b0, s.b1, b2 = s.b1, b2, s.b1+q*b2
		s.odd = !s.odd
	}
	return s
}

// leading returns the 64 bits of m from the bit 32 n - h - 1 down, for n >= 3 and h < 32.
func leading(m []uint32, n, h int) uint64 {
	high := uint64(limb(m, n-1))<<32 | uint64(limb(m, n-2))
	return high<<h | uint64(limb(m, n-3))>>(32-h)
}

// apply returns what the steps make of a and b.
func (s steps) apply(a, b []uint32) ([]uint32, []uint32) {
	if s.odd {
		return combine(b, s.b0, a, s.a0), combine(a, s.a1, b, s.b1)
	}
	return combine(a, s.a0, b, s.b0), combine(b, s.b1, a, s.a1)
}

// combine returns p m - q n, for p and q below 2^32, if this is neither negative nor longer than both m and n.
func combine(m []uint32, p uint64, n []uint32, q uint64) []uint32 {
	out := make([]uint32, max(len(m), len(n)))
	var plus, minus, borrow uint64
	for i := range out {
		plus += p * uint64(limb(m, i))
		minus += q * uint64(limb(n, i))
		d := plus&(1<<32-1) - minus&(1<<32-1) - borrow
		out[i] = uint32(d)
		borrow = d >> 63
		plus >>= 32
		minus >>= 32
	}
	return trim(out)
}
