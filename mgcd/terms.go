package mgcd

import (
	"slices"

	"quadrature/api"
	"quadrature/mpoly"
	"quadrature/rational"
)

// exponents are those of the variables in a term.
type exponents = [api.MaxVars]int

// compare returns 1, 0 or -1 if a is greater than, equal to or less than b. They are compared from index 0 on, unlike those of the terms of polynomials.
func compare(a, b exponents) int { return slices.Compare(a[:], b[:]) }

// degrees returns the degrees of a in the variables.
func degrees(a api.MPoly) exponents {
	var out exponents
	for _, x := range a {
		for v, e := range x.E {
			out[v] = max(out[v], e)
		}
	}
	return out
}

// lowest returns the least exponents of the variables in a, which is not 0.
func lowest(a api.MPoly) exponents {
	out := a[0].E
	for _, x := range a {
		for v, e := range x.E {
			out[v] = min(out[v], e)
		}
	}
	return out
}

// gaps returns, for each variable, the greatest number of which d and all differences between low and its exponents in a are multiples.
func gaps(a api.MPoly, low, d exponents) exponents {
	for _, x := range a {
		for v, e := range x.E {
			for e -= low[v]; e != 0; {
				d[v], e = e, d[v]%e
			}
		}
	}
	return d
}

// change returns a with f(v, e) as exponents in place of e. This must not change the order of the terms.
func change(a api.MPoly, f func(v, e int) int) api.MPoly {
	out := make(api.MPoly, len(a))
	for i, x := range a {
		for v, e := range x.E {
			x.E[v] = f(v, e)
		}
		out[i] = x
	}
	return out
}

// coefficients returns the coefficients of a by v that are not 0. The time does not depend on the degree of a, unlike that of mpoly.Coeffs.
func coefficients(a api.MPoly, v int) []api.MPoly {
	if v < 0 || v >= api.MaxVars {
		return []api.MPoly{a}
	}
	var out []api.MPoly
	places := map[int]int{}
	for _, x := range a {
		i, ok := places[x.E[v]]
		if !ok {
			i = len(out)
			places[x.E[v]] = i
			out = append(out, nil)
		}
		x.E[v] = 0
		out[i] = append(out[i], x)
	}
	return out
}

// measure returns a number of which a and b are multiples by integers without a common divisor. They are not 0.
func measure(a, b api.Rat) api.Rat {
	// If a/b = p/q in lowest terms, it is a/p.
	f, _ := rational.Div(a, b)
	c, _ := rational.Div(a, api.Rat{Num: f.Num, Den: rational.Whole(1).Den})
	return c
}

// whole returns a number and a polynomial whose product is a, for a other than 0. The coefficients of the polynomial are integers without a common divisor.
func whole(a api.MPoly) (api.Rat, api.MPoly) {
	u := a[0].C
	for _, x := range a[1:] {
		// If u is 1/n, integers are multiples of it, anyway.
		if !unit(u.Num) || !unit(x.C.Den) {
			u = measure(u, x.C)
		}
	}
	c, _ := rational.Div(rational.Whole(1), u)
	return u, mpoly.Scale(a, c)
}

// unit reports whether n is 1 or -1.
func unit(n api.Int) bool { return len(n.Mag) == 1 && n.Mag[0] == 1 }
