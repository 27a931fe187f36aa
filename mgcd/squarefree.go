package mgcd

import (
	"slices"

	"quadrature/api"
	"quadrature/mpoly"
)

// Squarefree returns the normal squarefree factors of the primitive part of a, with their exponents.
func Squarefree(a api.MPoly, v int) []api.MFactor {
	if mpoly.Deg(a, v) < 1 {
		return nil
	}
	// The exponent of v itself may be much greater than the number of terms; those of the other factors are not.
	n := lowest(a)[v]
	l := factors(change(a, func(w, e int) int {
		if w == v {
			return e - n
		}
		return e
	}), v)
	if n == 0 {
		return l
	}
	i, found := slices.BinarySearchFunc(l, n, func(f api.MFactor, n int) int { return f.N - n })
	if found {
		l[i].P = mpoly.Mul(l[i].P, mpoly.Var(v))
		return l
	}
	return slices.Insert(l, i, api.MFactor{P: mpoly.Var(v), N: n})
}

// factors returns the list for a, by Yun's algorithm.
func factors(a api.MPoly, v int) []api.MFactor {
	d := mpoly.Partial(a, v)
	// The content is a part of g, so it does not occur any more.
	g := Gcd(a, d)
	// In step n, w is the product of the factors p with exponents of at least n, and d is the sum of their derivatives, each multiplied by w/p and by the exponent reduced by n - 1.
	w, d := quotient(a, g), quotient(d, g)
	var out []api.MFactor
	for n := 1; mpoly.Deg(w, v) > 0; n++ {
		d = mpoly.Sub(d, mpoly.Partial(w, v))
		p := Gcd(w, d)
		if mpoly.Deg(p, v) > 0 {
			out = append(out, api.MFactor{P: p, N: n})
		}
		w, d = quotient(w, p), quotient(d, p)
	}
	return out
}
