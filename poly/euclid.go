package poly

import (
	"quadrature/api"
	"quadrature/rational"
)

// row is a row of the extended Euclidean algorithm for a and b: r = s a + t b. Where s and t are not of interest, they are 0 in all rows.
type row struct{ r, s, t api.Poly }

// euclid is the state of the extended Euclidean algorithm. Its rows are multiples of those of the document by numbers: for polynomials with integer coefficients, the subresultant algorithm of Collins and Brown keeps all coefficients integers, and nearly as short as they can be, while they would become long fractions without it.
type euclid struct {
	rows [2]row
	g, h api.Rat
}

// begin returns the state before the first step. The degree of the second row must not be larger than that of the first one.
func begin(first, second row) euclid {
	return euclid{rows: [2]row{first, second}, g: rational.Whole(1), h: rational.Whole(1)}
}

// done reports whether the first row has the greatest common divisor.
func (e *euclid) done() bool { return len(e.rows[1].r) == 0 }

// step replaces the rows by the second one and by a multiple of what the first one leaves when the second one is divided out.
func (e *euclid) step() {
	first, second := e.rows[0], e.rows[1]
	d, leading := len(first.r)-len(second.r), lead(second.r)
	// With this factor, the division has no fractions, and the rest is divisible by g h^d.
	factor := power(leading, d+1)
	divisor := rational.Mul(e.g, power(e.h, d))
	q, rest, _ := DivMod(Scale(first.r, factor), second.r)
	remove := func(x, y api.Poly) api.Poly {
		return over(Sub(Scale(x, factor), Mul(q, y)), divisor)
	}
	e.rows = [2]row{second, {over(rest, divisor), remove(first.s, second.s), remove(first.t, second.t)}}
	e.g, e.h = leading, rational.Mul(e.h, power(quotient(leading, e.h), d))
}

// Gcd returns the greatest common divisor of a and b, which is monic, or 0 if both are 0.
func Gcd(a, b api.Poly) api.Poly {
	if len(a) < len(b) {
		a, b = b, a
	}
	e := begin(row{r: over(a, content(a))}, row{r: over(b, content(b))})
	for !e.done() {
		e.step()
	}
	return Monic(e.rows[0].r)
}

// Ext returns the greatest common divisor g of a and b, and the s and t with s a + t b = g that the extended Euclidean algorithm computes.
func Ext(a, b api.Poly) (api.Poly, api.Poly, api.Poly) {
	if len(a) < len(b) {
		// The first step of the algorithm would only exchange the rows.
		g, t, s := Ext(b, a)
		return g, s, t
	}
	c, d, one := content(a), content(b), api.Poly{rational.Whole(1)}
	e := begin(row{r: over(a, c), s: one}, row{r: over(b, d), t: one})
	for !e.done() {
		e.step()
	}
	last := e.rows[0]
	if len(last.r) == 0 {
		return last.r, last.s, last.t
	}
	// s and t belong to a/c and b/d.
	f := lead(last.r)
	return over(last.r, f), over(last.s, rational.Mul(f, c)), over(last.t, rational.Mul(f, d))
}

// content returns a number c for which the coefficients of a/c are integers without a common divisor; 1 for 0.
func content(a api.Poly) api.Rat {
	if len(a) == 0 {
		return rational.Whole(1)
	}
	one, c := rational.Whole(1), lead(a)
	for _, x := range a {
		// If x/c = n/d in lowest terms, c/d is the greatest number of which x and c are integer multiples.
		c = rational.Mul(c, api.Rat{Num: one.Num, Den: quotient(x, c).Den})
	}
	return c
}
