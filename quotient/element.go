package quotient

import (
	"quadrature/api"
	"quadrature/poly"
	"quadrature/rational"
)

// element is a residue class a modulo q. Polynomials have values at it, which are residue classes themselves.
type element struct{ q, a api.Poly }

// extend returns the value of x (f + c) at the element, for the value y of f: this is a step of Horner's scheme.
func (e element) extend(y api.Poly, c api.Rat) api.Poly {
	return Mul(e.q, poly.Add(y, poly.Trim([]api.Rat{c})), e.a)
}

// characteristic returns the product of x - a(c) over all roots c of q.
func characteristic(q, a api.Poly) api.Poly {
	n := degree(q)
	extend, powers := element{q, a}.extend, Power(q, n)
	f := make(api.Poly, n+1)
	f[n] = rational.Whole(1)
	// y is the value at a of x times the polynomial whose coefficients are those of f that are known. By Newton's identities, the sum of its values over the roots is -k times the next coefficient.
	var y api.Poly
	for k := 1; k <= n; k++ {
		y = extend(y, f[n-k+1])
		f[n-k], _ = rational.Div(dot(y, powers), rational.Whole(int64(-k)))
	}
	return f
}
