package sturm

import (
	"slices"

	"quadrature/api"
	"quadrature/integer"
	"quadrature/poly"
	"quadrature/rational"
)

// link is an element of a Sturm chain: factor, a positive number, times whole, whose coefficients have no common divisor. The signs of the element are those of whole, and whole stays short, while the numbers of the element itself become longer with each division.
type link struct {
	factor api.Rat
	whole  whole
}

// lowered returns factor times w as a link; for w = 0, its whole is 0, too.
func lowered(factor api.Rat, w whole) link {
	g := w.content()
	if integer.Sign(g) == 0 {
		return link{}
	}
	return link{rational.Mul(factor, fromInt(g)), w.over(g)}
}

// cleared returns p as a link.
func cleared(p api.Poly) link {
	d := integer.Of(1)
	for _, c := range p {
		d = integer.Mul(d, quotient(c.Den, integer.Gcd(d, c.Den)))
	}
	w := collect(len(p), func(i int) api.Int { return integer.Mul(p[i].Num, quotient(d, p[i].Den)) })
	factor, _ := rational.Of(integer.Of(1), d)
	return lowered(factor, w)
}

// value returns the element of the chain.
func (l link) value() api.Poly {
	out := make(api.Poly, len(l.whole))
	for i, c := range l.whole {
		out[i] = rational.Mul(l.factor, fromInt(c))
	}
	return out
}

// chain returns the links of the Sturm chain of p.
func chain(p api.Poly) []link {
	var out []link
	a := cleared(p)
	b := lowered(a.factor, a.whole.derivative())
	for len(a.whole) > 0 {
		out = append(out, a)
		a, b = b, next(a, b)
	}
	return out
}

// next returns the link behind a and b: -(a mod b), or 0 if b is 0.
func next(a, b link) link {
	if len(b.whole) == 0 {
		return link{}
	}
	lead := b.whole.lead()
	size, negative := absolute(lead), integer.Sign(lead) < 0
	factor, rest := a.factor, a.whole
	for len(rest) >= len(b.whole) {
		rest = reduce(rest, b.whole, size, negative)
		factor, _ = rational.Div(factor, fromInt(size))
	}
	return lowered(factor, collect(len(rest), func(i int) api.Int { return integer.Neg(rest[i]) }))
}

// reduce returns size a less the multiple of b that removes the term of the highest degree; size is the absolute value of the leading coefficient of b, whose sign is given, too. The factor must not be negative: it would change the signs.
func reduce(a, b whole, size api.Int, negative bool) whole {
	top, shift := a.lead(), len(a)-len(b)
	if negative {
		top = integer.Neg(top)
	}
	return collect(len(a)-1, func(i int) api.Int {
		c := integer.Mul(size, a[i])
		if i < shift {
			return c
		}
		return integer.Sub(c, integer.Mul(top, b[i-shift]))
	})
}

// separated returns the Sturm chain of the squarefree part of p, up to positive factors of its elements and a common factor of all.
func separated(p api.Poly) []whole {
	links := chain(p)
	if len(links) == 0 {
		return nil
	}
	// The last element is the greatest common divisor of p and its derivative: most polynomials are squarefree.
	if last := links[len(links)-1]; len(last.whole) > 1 {
		q, _, _ := poly.DivMod(links[0].value(), last.value())
		links = chain(q)
	}
	var out []whole
	for _, l := range links {
		out = append(out, l.whole)
	}
	return out
}

// stretched returns the polynomials whose signs at n are those of c at n/d, for d > 0.
func stretched(c []whole, d api.Int) []whole {
	out := slices.Clone(c)
	for i, w := range c {
		out[i] = w.stretch(d)
	}
	return out
}

// variations returns the number of changes of sign in the values of c at n, without the zeros.
func variations(c []whole, n api.Int) int {
	changes, last := 0, 0
	count := func(sign int) {
		if sign == 0 {
			return
		}
		if sign == -last {
			changes++
		}
		last = sign
	}
	for _, w := range c {
		count(w.sign(n))
	}
	return changes
}

// fromInt returns a as a rational number.
func fromInt(a api.Int) api.Rat { return api.Rat{Num: a, Den: integer.Of(1)} }
