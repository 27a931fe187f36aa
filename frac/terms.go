package frac

import (
	"slices"

	"quadrature/api"
	"quadrature/mgcd"
	"quadrature/mpoly"
	"quadrature/rational"
)

// highest returns the highest variable in p, and -1 if there is none. The first term has it, because the exponents of the highest variables are compared first.
func highest(p api.MPoly) int {
	for v := api.MaxVars - 1; v >= 0; v-- {
		if len(p) > 0 && p[0].E[v] > 0 {
			return v
		}
	}
	return -1
}

// isOne reports whether p is 1. Most denominators are, so this is worth a short way: the only number in lowest terms that has the same numerator and denominator.
func isOne(p api.MPoly) bool {
	if len(p) != 1 || p[0].E != [api.MaxVars]int{} {
		return false
	}
	c := p[0].C
	return !c.Num.Neg && slices.Equal(c.Num.Mag, c.Den.Mag)
}

// quotient returns a/b, where b divides a.
func quotient(a, b api.MPoly) api.MPoly {
	if isOne(b) {
		return a
	}
	q, _ := mpoly.Div(a, b)
	return q
}

// cancel returns a and b divided by their greatest common divisor.
func cancel(a, b api.MPoly) (api.MPoly, api.MPoly) {
	if highest(b) < 0 {
		return a, b
	}
	g := mgcd.Gcd(a, b)
	if highest(g) < 0 {
		return a, b
	}
	return quotient(a, g), quotient(b, g)
}

// ratio returns n/d, for n and d without common factors and d other than 0.
func ratio(n, d api.MPoly) api.Frac {
	c, _ := rational.Div(rational.Whole(1), d[0].C)
	// Products are new memory. The two parts of a fraction share none, even if n and d do.
	return api.Frac{N: mpoly.Scale(n, c), D: mpoly.Mul(d, mpoly.Const(c))}
}

// inverse returns 1/a, for a other than 0.
func inverse(a api.Frac) api.Frac { return ratio(a.D, a.N) }
