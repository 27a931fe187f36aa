package poly

import (
	"slices"

	"quadrature/api"
	"quadrature/rational"
)

// DivMod returns q and r with a = q b + r, where r has a smaller degree than b.
func DivMod(a, b api.Poly) (api.Poly, api.Poly, api.Errno) {
	if len(b) == 0 {
		return nil, nil, api.ErrZero
	}
	n := len(b) - 1
	if len(a) <= n {
		return nil, a, api.OK
	}
	q, rest := make([]api.Rat, len(a)-n), slices.Clone(a)
	for i := len(q) - 1; i >= 0; i-- {
		q[i] = quotient(rest[i+n], b[n])
		if isZero(q[i]) {
			continue
		}
		for j := range n {
			rest[i+j] = rational.Sub(rest[i+j], rational.Mul(q[i], b[j]))
		}
	}
	return Trim(q), Trim(rest[:n]), api.OK
}

// exact returns a/b, for b that divides a and is not 0.
func exact(a, b api.Poly) api.Poly {
	q, _, _ := DivMod(a, b)
	return q
}
