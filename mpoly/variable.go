package mpoly

import (
	"cmp"
	"slices"

	"quadrature/api"
	"quadrature/rational"
)

// part is the coefficient of the power of a variable with the exponent n.
type part struct {
	n int
	p api.MPoly
}

// parts returns the coefficients of a as a polynomial in v that are not 0, that of the highest power first.
func parts(a api.MPoly, v int) []part {
	var out []part
	at := map[int]int{}
	for _, x := range a {
		n := exponent(x.E, v)
		if n < 0 {
			// The polynomial is not valid. This must not become an index.
			continue
		}
		i, ok := at[n]
		if !ok {
			i = len(out)
			at[n] = i
			out = append(out, part{n: n})
		}
		// Terms with the same exponent of v keep their order without it.
		out[i].p = append(out[i].p, api.Mono{E: raise(x.E, v, -n), C: x.C})
	}
	slices.SortFunc(out, func(x, y part) int { return cmp.Compare(y.n, x.n) })
	return out
}

// Deg returns the greatest exponent of v in a, and -1 if a is 0.
func Deg(a api.MPoly, v int) int {
	n := -1
	for _, x := range a {
		n = max(n, exponent(x.E, v))
	}
	return n
}

// Coeffs returns the coefficients of a as a polynomial in v, that of degree 0 first.
func Coeffs(a api.MPoly, v int) []api.MPoly {
	l := parts(a, v)
	// DOC.md promises nothing for results of 2^31 bytes or more, and this many elements, of 24 bytes each, could take more memory than there is.
	if len(l) == 0 || l[0].n >= 1<<31/24 {
		return nil
	}
	out := make([]api.MPoly, l[0].n+1)
	for _, x := range l {
		out[x.n] = x.p
	}
	return out
}

// From returns the sum of l[i] v^i.
func From(l []api.MPoly, v int) api.MPoly {
	t := newTable()
	for i, p := range l {
		for _, x := range p {
			t.add(raise(x.E, v, i), x.C)
		}
	}
	return t.sum()
}

// Partial returns the partial derivative of a by v.
func Partial(a api.MPoly, v int) api.MPoly {
	var out api.MPoly
	for _, x := range a {
		// Terms with v keep their order with a lower exponent of v.
		if n := exponent(x.E, v); n > 0 {
			out = append(out, api.Mono{E: raise(x.E, v, -1), C: rational.Mul(x.C, rational.Whole(int64(n)))})
		}
	}
	return out
}

// Eval returns a with c for v.
func Eval(a api.MPoly, v int, c api.Rat) api.MPoly { return Subst(a, v, Const(c)) }

// Subst returns a with b for v.
func Subst(a api.MPoly, v int, b api.MPoly) api.MPoly {
	// This is Horner's scheme, which goes over the powers that do not occur in one step.
	var out api.MPoly
	l := parts(a, v)
	for i, x := range l {
		next := 0
		if i+1 < len(l) {
			next = l[i+1].n
		}
		out = Mul(Add(out, x.p), Pow(b, x.n-next))
	}
	return out
}
