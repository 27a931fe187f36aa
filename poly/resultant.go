package poly

import (
	"quadrature/api"
	"quadrature/rational"
)

// Resultant returns the determinant of the Sylvester matrix of a and b.
func Resultant(a, b api.Poly) api.Rat {
	switch {
	case len(a) == 0 || len(b) == 0:
		return rational.Whole(0)
	case len(a) < len(b):
		// The rows of the matrix are exchanged, too.
		return negateIf(bothOdd(a, b), Resultant(b, a))
	}
	c, d := content(a), content(b)
	factor := rational.Mul(power(c, len(b)-1), power(d, len(a)-1))
	return rational.Mul(factor, integral(over(a, c), over(b, d)))
}

// integral returns the resultant of polynomials with integer coefficients, for a of no smaller degree than b and b other than 0.
func integral(a, b api.Poly) api.Rat {
	e, negative := begin(row{r: a}, row{r: b}), false
	for len(e.rows[1].r) > 1 {
		negative = negative != bothOdd(e.rows[0].r, e.rows[1].r)
		e.step()
	}
	if e.done() {
		return rational.Whole(0)
	}
	n, last := len(e.rows[0].r)-1, e.rows[1].r[0]
	return negateIf(negative, rational.Mul(e.h, power(quotient(last, e.h), n)))
}

// bothOdd reports whether the degrees of a and b are odd, for a and b other than 0.
func bothOdd(a, b api.Poly) bool { return len(a)%2 == 0 && len(b)%2 == 0 }

// negateIf returns -c or c.
func negateIf(negative bool, c api.Rat) api.Rat {
	if negative {
		return rational.Neg(c)
	}
	return c
}
