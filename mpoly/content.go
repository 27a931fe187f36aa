package mpoly

import (
	"quadrature/api"
	"quadrature/rational"
)

// integer reports whether c is one.
func integer(c api.Rat) bool { return len(c.Den.Mag) == 1 && c.Den.Mag[0] == 1 }

// whole reports whether all coefficients of a are integers.
func whole(a api.MPoly) bool {
	for _, x := range a {
		if !integer(x.C) {
			return false
		}
	}
	return true
}

// split returns a number and a polynomial whose product is a, for a other than 0. The coefficients of the polynomial are integers without a common divisor.
func split(a api.MPoly) (api.Rat, api.MPoly) {
	u := a[0].C
	for _, x := range a[1:] {
		// If u/x = p/q in lowest terms, u/p is the greatest number of which both u and x are multiples.
		f, _ := rational.Div(u, x.C)
		u, _ = rational.Div(u, api.Rat{Num: f.Num, Den: rational.Whole(1).Den})
	}
	c, _ := rational.Div(rational.Whole(1), u)
	if rational.Sign(c) == 0 {
		// This is only so where coefficients are not valid. The callers rely on a polynomial with terms.
		return rational.Whole(1), a
	}
	return u, Scale(a, c)
}

// power returns the n-th power of c, for n >= 0.
func power(c api.Rat, n int) api.Rat {
	p := rational.Whole(1)
	for ; n > 0; n >>= 1 {
		if n&1 == 1 {
			p = rational.Mul(p, c)
		}
		if n > 1 {
			c = rational.Mul(c, c)
		}
	}
	return p
}
