package mpoly

import (
	"cmp"
	"slices"

	"quadrature/api"
	"quadrature/rational"
)

// exponents are those of the variables in a term.
type exponents [api.MaxVars]int

// compare returns -1, 0 or 1 if e is less than, equal to, or greater than f.
func compare(e, f exponents) int {
	for v := api.MaxVars - 1; v >= 0; v-- {
		if e[v] != f[v] {
			return cmp.Compare(e[v], f[v])
		}
	}
	return 0
}

// known reports whether there is a variable v.
func known(v int) bool { return v >= 0 && v < api.MaxVars }

// exponent returns that of v, which is 0 if there is no such variable.
func exponent(e exponents, v int) int {
	if !known(v) {
		return 0
	}
	return e[v]
}

// raise returns e with n more for v, if there is such a variable.
func raise(e exponents, v, n int) exponents {
	if known(v) {
		e[v] += n
	}
	return e
}

// plus returns the exponents of the product of two terms.
func plus(e, f exponents) exponents {
	for v := range e {
		e[v] += f[v]
	}
	return e
}

// minus returns the exponents of the quotient of two terms.
func minus(e, f exponents) exponents {
	for v := range e {
		e[v] -= f[v]
	}
	return e
}

// times returns the exponents of the n-th power of a term.
func times(e exponents, n int) exponents {
	for v := range e {
		e[v] *= n
	}
	return e
}

// negative reports whether one of the exponents is.
func negative(e exponents) bool { return slices.Min(e[:]) < 0 }

// ordered reports whether the exponents of p are not negative, and strictly decreasing, and no coefficient is 0.
func ordered(p api.MPoly) bool {
	for i, x := range p {
		if negative(x.E) || i > 0 && compare(p[i-1].E, x.E) <= 0 || rational.Sign(x.C) == 0 {
			return false
		}
	}
	return true
}

// table is a sum of terms: it tells where there is already a term with given exponents.
type table struct {
	at    map[exponents]int
	terms api.MPoly
}

// newTable returns an empty sum.
func newTable() *table { return &table{at: map[exponents]int{}} }

// add adds a term.
func (t *table) add(e exponents, c api.Rat) {
	i, ok := t.at[e]
	if ok {
		t.terms[i].C = rational.Add(t.terms[i].C, c)
		return
	}
	t.at[e] = len(t.terms)
	t.terms = append(t.terms, api.Mono{E: e, C: c})
}

// sum returns the polynomial. The table is of no use after that.
func (t *table) sum() api.MPoly {
	out := slices.DeleteFunc(t.terms, func(x api.Mono) bool { return rational.Sign(x.C) == 0 })
	slices.SortFunc(out, func(x, y api.Mono) int { return compare(y.E, x.E) })
	return out
}
