package poly

import "quadrature/api"

// Squarefree returns the squarefree decomposition of a, by Yun's algorithm; nothing for constants.
func Squarefree(a api.Poly) []api.Factor {
	if len(a) < 2 {
		return nil
	}
	derivative := Diff(a)
	g := Gcd(a, derivative)
	// If a is the product of the p_i^i, up to a number, then rest is the product of the p_i with i >= n, and sum is the sum of (i - n + 1) rest p_i'/p_i.
	rest, sum := exact(a, g), exact(derivative, g)
	var out []api.Factor
	for n := 1; len(rest) > 1 && n < len(a); n++ {
		// Subtracting the derivative removes p_n from the sum, so that it divides what is left.
		left := Sub(sum, Diff(rest))
		p := Gcd(rest, left)
		if len(p) > 1 {
			out = append(out, api.Factor{P: p, N: n})
		}
		rest, sum = exact(rest, p), exact(left, p)
	}
	return out
}
