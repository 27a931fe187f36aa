package quotient

import (
	"iter"

	"quadrature/api"
	"quadrature/poly"
	"quadrature/rational"
)

// sums yields the sums of the i-th powers of the roots of q, for i = 0, 1, 2 and so on without end.
func sums(q api.Poly) iter.Seq[api.Rat] {
	monic := poly.Monic(q)
	return func(yield func(api.Rat) bool) {
		var past []api.Rat
		for s := rational.Whole(int64(degree(q))); yield(s); s = following(monic, past) {
			past = append(past, s)
		}
	}
}

// following returns the sum of powers that comes after those in past. By Newton's identities, the sums s_i for a monic polynomial with the degree n and the coefficients c_i satisfy s_i + c_(n-1) s_(i-1) + ... + c_0 s_(i-n) = 0.
func following(monic api.Poly, past []api.Rat) api.Rat {
	i, n := len(past), degree(monic)
	rest := rational.Whole(0)
	for k := 1; k <= min(i, n); k++ {
		s := past[i-k]
		if k == i {
			// Where they end with s_0, because i is not larger than n, they have i in its place.
			s = rational.Whole(int64(i))
		}
		rest = rational.Add(rest, rational.Mul(monic[n-k], s))
	}
	return rational.Neg(rest)
}

// degree returns the number of roots of q.
func degree(q api.Poly) int { return max(len(q)-1, 0) }
