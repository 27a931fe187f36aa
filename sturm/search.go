package sturm

import (
	"iter"

	"quadrature/api"
	"quadrature/integer"
)

// place is an integer n with the sign of the first polynomial of a chain and the number of variations there.
type place struct {
	n                api.Int
	sign, variations int
}

// numerators returns the integers n, in increasing order, for which n/d is a root of the squarefree polynomial with the chain c, for d > 0.
func numerators(c []whole, d api.Int) iter.Seq[api.Int] {
	return func(yield func(api.Int) bool) {
		if len(c) == 0 {
			return
		}
		s := stretched(c, d)
		// halve visits the places behind lo up to hi; it returns false if no more of them are wanted.
		var halve func(lo, hi place) bool
		halve = func(lo, hi place) bool {
			switch {
			case lo.variations == hi.variations:
				return true
			case integer.Cmp(integer.Sub(hi.n, lo.n), integer.Of(1)) <= 0:
				return hi.sign != 0 || yield(hi.n)
			}
			middle := between(s, lo, hi)
			return halve(lo, middle) && halve(middle, hi)
		}
		end := integer.Mul(c[0].reach(), d)
		halve(visit(s, integer.Neg(end)), visit(s, end))
	}
}

// visit returns the place n.
func visit(s []whole, n api.Int) place {
	return place{n: n, sign: s[0].sign(n), variations: variations(s, n)}
}

// between returns the place in the middle of lo and hi.
func between(s []whole, lo, hi place) place {
	n := quotient(integer.Add(lo.n, hi.n), integer.Of(2))
	if lo.variations-hi.variations > 1 {
		return visit(s, n)
	}
	// Only one root lies between lo and hi, where the sign changes: this sign is enough to tell its side, and the rest of the chain need not be evaluated.
	m := place{n: n, sign: s[0].sign(n), variations: lo.variations}
	if m.sign == 0 || m.sign == hi.sign {
		m.variations = hi.variations
	}
	return m
}
