package mgcd

import (
	"math/bits"

	"quadrature/api"
)

// field is the field of the residues modulo a prime number, from 2^61 to 2^62.
type field uint64

// largest has the greatest prime number that is less than 2^62.
const largest field = 1<<62 - 57

// add returns a + b.
func (p field) add(a, b uint64) uint64 {
	if c := a + b; c < uint64(p) {
		return c
	}
	return a + b - uint64(p)
}

// sub returns a - b.
func (p field) sub(a, b uint64) uint64 {
	if a >= b {
		return a - b
	}
	return a + uint64(p) - b
}

// mul returns a b.
func (p field) mul(a, b uint64) uint64 {
	high, low := bits.Mul64(a, b)
	_, c := bits.Div64(high, low, uint64(p))
	return c
}

// cross returns a b + c d. The sum of products is less than 2^125, so its upper half is less than p.
func (p field) cross(a, b, c, d uint64) uint64 {
	high, low := bits.Mul64(a, b)
	high2, low2 := bits.Mul64(c, d)
	low, carry := bits.Add64(low, low2, 0)
	_, e := bits.Div64(high+high2+carry, low, uint64(p))
	return e
}

// power returns the n-th power of a.
func (p field) power(a, n uint64) uint64 {
	c := uint64(1)
	for ; n > 0; n >>= 1 {
		if n&1 == 1 {
			c = p.mul(c, a)
		}
		a = p.mul(a, a)
	}
	return c
}

// inverse returns 1/a, for a other than 0.
func (p field) inverse(a uint64) uint64 { return p.power(a, uint64(p-2)) }

// of returns the residue of the integer a.
func (p field) of(a api.Rat) uint64 {
	var c uint64
	for i := len(a.Num.Mag) - 1; i >= 0; i-- {
		_, c = bits.Div64(c>>32, c<<32|uint64(a.Num.Mag[i]), uint64(p))
	}
	if a.Num.Neg {
		return p.sub(0, c)
	}
	return c
}

// least returns the integer with the residue a that is nearest to 0.
func (p field) least(a uint64) int64 {
	if a > uint64(p)/2 {
		return int64(a) - int64(p)
	}
	return int64(a)
}

// next returns the next smaller field.
func (p field) next() field {
	for {
		p -= 2
		if p.prime() {
			return p
		}
	}
}

// prime reports whether p is a prime number. For numbers below 2^64 and these bases, the test of Miller and Rabin is a proof.
func (p field) prime() bool {
	for _, a := range []uint64{2, 3, 5, 7, 11, 13, 17, 19, 23, 29, 31, 37} {
		if !p.passes(a) {
			return false
		}
	}
	return true
}

// passes reports whether p, which is odd, passes the test of Miller and Rabin to the base a.
func (p field) passes(a uint64) bool {
	twos := bits.TrailingZeros64(uint64(p - 1))
	c := p.power(a, uint64(p-1)>>twos)
	if c == 1 {
		return true
	}
	for range twos {
		if c == uint64(p-1) {
			return true
		}
		c = p.mul(c, c)
	}
	return false
}
