package frac

import (
	"cmp"
	"slices"

	"quadrature/api"
	"quadrature/mgcd"
	"quadrature/mpoly"
	"quadrature/rational"
)

// Partial returns the partial derivative of a by v.
func Partial(a api.Frac, v int) api.Frac {
	d := mpoly.Partial(a.D, v)
	g := mgcd.Gcd(a.D, d)
	p, q := quotient(a.D, g), quotient(d, g)
	n := mpoly.Sub(mpoly.Mul(mpoly.Partial(a.N, v), p), mpoly.Mul(a.N, q))
	// The denominator is g p^2. The irreducible factors of p are those of a.D that have v. None of them divides a.N or q, so none divides n: only g can be shortened.
	n, g = cancel(n, g)
	return api.Frac{N: n, D: mpoly.Mul(g, mpoly.Mul(p, p))}
}

// Eval returns a with c for v.
func Eval(a api.Frac, v int, c api.Rat) (api.Frac, api.Errno) { return Subst(a, v, Const(c)) }

// Subst returns a with b for v.
func Subst(a api.Frac, v int, b api.Frac) (api.Frac, api.Errno) {
	n := max(mpoly.Deg(a.N, v), mpoly.Deg(a.D, v))
	if n < 1 {
		return a, api.OK
	}
	return Of(value(a.N, v, b, n), value(a.D, v, b, n))
}

// value returns a with b for v, times the n-th power of the denominator of b. The degree of a in v is at most n.
func value(a api.MPoly, v int, b api.Frac, n int) api.MPoly {
	if isOne(b.D) {
		return mpoly.Subst(a, v, b.N)
	}
	// This is Horner's scheme. The terms that have been included, divided by v^at, are sum/d with b for v, where d is the power of the denominator of b with the exponent n - at.
	var sum api.MPoly
	d, at := mpoly.Const(rational.Whole(1)), n
	var include func(l []api.Mono)
	include = func(l []api.Mono) {
		if len(l) == 0 {
			return
		}
		low, high := l[0].E[v], l[len(l)-1].E[v]
		if low < high {
			// The upper half comes first. Because the range of the exponents is halved, the recursion is not deep.
			middle := low + int(uint(high-low)/2)
			m := slices.IndexFunc(l, func(x api.Mono) bool { return x.E[v] > middle })
			include(l[m:])
			include(l[:m])
			return
		}
		sum, d = expand(sum, b.N, at-low), expand(d, b.D, at-low)
		sum, at = mpoly.Add(sum, mpoly.Mul(without(l, v), d)), low
	}
	include(slices.SortedStableFunc(slices.Values(a), func(x, y api.Mono) int { return cmp.Compare(x.E[v], y.E[v]) }))
	return expand(sum, b.N, at)
}

// expand returns the product of a and the n-th power of p, which may have many terms: it is not formed if a is 0.
func expand(a, p api.MPoly, n int) api.MPoly {
	if len(a) == 0 {
		return nil
	}
	return mpoly.Mul(a, mpoly.Pow(p, n))
}

// without returns the terms l without v, which has the same exponent in all of them: they keep their order.
func without(l []api.Mono, v int) api.MPoly {
	out := slices.Clone(l)
	for i := range out {
		out[i].E[v] = 0
	}
	return out
}
