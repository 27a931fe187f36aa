package mpoly

import (
	"quadrature/api"
	"quadrature/rational"
)

// Pseudo returns the pseudo-remainder of a by b in v.
func Pseudo(a, b api.MPoly, v int) (api.MPoly, api.Errno) {
	m, n := Deg(a, v), Deg(b, v)
	switch {
	case n < 0:
		return nil, api.ErrZero
	case m < n:
		return a, api.OK
	case n == 0:
		return nil, api.OK
	}
	u, a := split(a)
	w, b := split(b)
	// The factor of a appears in the remainder as it is, that of b with each step, whether one is necessary or not.
	steps := m - n + 1
	return Scale(remain(a, b, v, steps), rational.Mul(u, power(w, steps))), api.OK
}

// remain returns the polynomial r of a smaller degree in v than b for which c^steps a - r is a multiple of b, where c is the coefficient of the highest power of v in b. No more steps are necessary.
func remain(a, b api.MPoly, v, steps int) api.MPoly {
	n := Deg(b, v)
	c, tail := head(b, v, n, n)
	for m := Deg(a, v); m >= n; m = Deg(a, v) {
		// The terms with v^m cancel.
		l, rest := head(a, v, m, n)
		a = Sub(Mul(rest, c), Mul(l, tail))
		steps--
	}
	if len(a) == 0 {
		return nil
	}
	return Mul(a, Pow(c, steps))
}

// head returns the terms of a with v^m, divided by v^n, and the others.
func head(a api.MPoly, v, m, n int) (api.MPoly, api.MPoly) {
	var first, others api.MPoly
	for _, x := range a {
		if exponent(x.E, v) == m {
			first = append(first, api.Mono{E: raise(x.E, v, -n), C: x.C})
		} else {
			others = append(others, x)
		}
	}
	return first, others
}
