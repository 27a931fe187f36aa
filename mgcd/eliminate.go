package mgcd

import (
	"quadrature/api"
	"quadrature/mpoly"
)

// eliminate returns the resultant of a and b, which are not 0, without values.
// The rows of Sylvester's matrix are products of a and b with powers of v, so one pseudo-division does what a step of the elimination does to all the rows of a. The remainders have factors in common that are known; without them, their coefficients are determinants of parts of the matrix (the subresultants of Collins and Brown), so there are no fractions.
func eliminate(a, b api.MPoly, v int) api.MPoly {
	lead, minor := one(), one()
	negative := false
elimination:
	for {
		m, n := mpoly.Deg(a, v), mpoly.Deg(b, v)
		if n == 0 {
			break elimination
		}
		negative = negative != (m%2 == 1 && n%2 == 1)
		if m < n {
			a, b = b, a
			continue elimination
		}
		r, _ := mpoly.Pseudo(a, b, v)
		if len(r) == 0 {
			return nil
		}
		a, b = b, quotient(r, mpoly.Mul(lead, mpoly.Pow(minor, m-n)))
		lead = leading(a, v)
		minor = advance(lead, minor, m-n)
	}
	c := advance(b, minor, mpoly.Deg(a, v))
	if negative {
		return mpoly.Sub(nil, c)
	}
	return c
}

// leading returns the coefficient of the highest power of v in a, which is not 0.
func leading(a api.MPoly, v int) api.MPoly {
	n := mpoly.Deg(a, v)
	var out api.MPoly
	for _, x := range a {
		if x.E[v] == n {
			x.E[v] = 0
			out = append(out, x)
		}
	}
	return out
}

// advance returns a^n/b^(n - 1), and b for n = 0. In an elimination, b divides the product after each multiplication with a.
func advance(a, b api.MPoly, n int) api.MPoly {
	switch {
	case n == 0:
		return b
	case mpoly.Equal(b, one()):
		return mpoly.Pow(a, n)
	}
	c := a
	for range n - 1 {
		c = quotient(mpoly.Mul(c, a), b)
	}
	return c
}
