package sturm

import (
	"math/bits"

	"quadrature/api"
	"quadrature/integer"
)

// whole is a polynomial with integer coefficients: that of degree i has the index i, and the last one is not 0. Signs are found with these, because integers need no search for common divisors.
type whole []api.Int

// collect returns the polynomial whose coefficients of the degrees below n are the values of f.
func collect(n int, f func(i int) api.Int) whole {
	out := make(whole, n)
	for i := range out {
		out[i] = f(i)
	}
	for n > 0 && integer.Sign(out[n-1]) == 0 {
		n--
	}
	return out[:n]
}

// lead returns the leading coefficient of w, for w other than 0.
func (w whole) lead() api.Int { return w[len(w)-1] }

// content returns the greatest common divisor of the coefficients of w; 0 for 0.
func (w whole) content() api.Int {
	g := integer.Of(0)
	for _, c := range w {
		g = integer.Gcd(g, c)
	}
	return g
}

// over returns w divided by g, which divides all coefficients and is not 0.
func (w whole) over(g api.Int) whole {
	return collect(len(w), func(i int) api.Int { return quotient(w[i], g) })
}

// derivative returns the derivative of w.
func (w whole) derivative() whole {
	return collect(max(len(w)-1, 0), func(i int) api.Int {
		return integer.Mul(integer.Of(int64(i+1)), w[i+1])
	})
}

// stretch returns the polynomial whose value at n is that of w at n/d, times the power of d that makes all these values integers.
func (w whole) stretch(d api.Int) whole {
	out, power := make(whole, len(w)), integer.Of(1)
	for i := len(w) - 1; i >= 0; i-- {
		out[i] = integer.Mul(w[i], power)
		power = integer.Mul(power, d)
	}
	return out
}

// sign returns the sign of w(n).
func (w whole) sign(n api.Int) int {
	y := integer.Of(0)
	for i := len(w) - 1; i >= 0; i-- {
		y = integer.Add(integer.Mul(y, n), w[i])
	}
	return integer.Sign(y)
}

// bound returns the number that Bound returns for w.
func (w whole) bound() api.Int {
	if len(w) < 2 {
		return integer.Of(0)
	}
	largest := integer.Of(0)
	for _, c := range w[:len(w)-1] {
		if a := absolute(c); integer.Cmp(a, largest) > 0 {
			largest = a
		}
	}
	// Adding a divisor less 1 makes the division round up; adding it once more adds 1 to the quotient.
	d := absolute(w.lead())
	sum := integer.Add(largest, integer.Add(d, integer.Sub(d, integer.Of(1))))
	return quotient(sum, d)
}

// reach returns a power of 2 that is greater than the absolute values of all roots, for w other than 0. A product of many factors has coefficients that are much larger than its roots: then the search takes much fewer steps from here than from the bound.
func (w whole) reach() api.Int {
	exponent, n := 0, len(w)-1
	for i, c := range w[:n] {
		if integer.Sign(c) == 0 {
			continue
		}
		// By Fujiwara's theorem, the roots are at most twice as large as the largest of the (n - i)-th roots of |c/lead|, which is less than 2 to the power of the excess.
		excess := length(c) - length(w[n]) + 1
		exponent = max(exponent, 2+(excess-1)/(n-i))
	}
	m := make([]uint32, exponent/32+1)
	m[exponent/32] = 1 << (exponent % 32)
	return api.Int{Mag: m}
}

// length returns the number of binary digits of |a|, for a other than 0.
func length(a api.Int) int {
	n := len(a.Mag)
	return 32*(n-1) + bits.Len32(a.Mag[n-1])
}

// absolute returns |a|.
func absolute(a api.Int) api.Int {
	if integer.Sign(a) < 0 {
		return integer.Neg(a)
	}
	return a
}

// quotient returns the quotient of a and d, rounded down for d > 0.
func quotient(a, d api.Int) api.Int {
	q, _, _ := integer.DivMod(a, d)
	return q
}
