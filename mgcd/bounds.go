package mgcd

import (
	"quadrature/api"
	"quadrature/mpoly"
)

// numbers are to take the place of variables. All digits but the first ones are those of pi, so polynomials hardly ever have roots or common divisors just because of them.
var numbers = [api.MaxVars]uint64{0x1243f6a8885a308d, 0x1313198a2e037073, 0x144a4093822299f3, 0x11d0082efa98ec4e}

// bounds returns numbers that are not less than the degrees of the greatest common divisor of a and b, and hardly ever greater.
func bounds(a, b api.MPoly) exponents {
	m, n := degrees(a), degrees(b)
	var most exponents
	for v := range most {
		most[v] = min(m[v], n[v])
		if most[v] == 0 {
			continue
		}
		x, y := largest.along(a, v), largest.along(b, v)
		// If one of the degrees is kept, the divisor keeps its own one, too.
		if len(x) > m[v] || len(y) > n[v] {
			most[v] = min(most[v], len(largest.common(x, y))-1)
		}
	}
	return most
}

// along returns the image of a with numbers in place of all variables but v.
func (p field) along(a api.MPoly, v int) line {
	out := make(line, mpoly.Deg(a, v)+1)
	for _, x := range a {
		c := p.of(x.C)
		for w, n := range x.E {
			if w != v {
				c = p.mul(c, p.power(numbers[w], uint64(n)))
			}
		}
		out[x.E[v]] = p.add(out[x.E[v]], c)
	}
	return trim(out)
}
