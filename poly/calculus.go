package poly

import (
	"slices"

	"quadrature/api"
	"quadrature/rational"
)

// Diff returns the derivative of a.
func Diff(a api.Poly) api.Poly {
	if len(a) == 0 {
		return nil
	}
	return Trim(collect(len(a)-1, func(i int) api.Rat {
		return rational.Mul(rational.Whole(int64(i+1)), a[i+1])
	}))
}

// Eval returns a(x).
func Eval(a api.Poly, x api.Rat) api.Rat {
	y := rational.Whole(0)
	for i := len(a) - 1; i >= 0; i-- {
		y = rational.Add(rational.Mul(y, x), a[i])
	}
	return y
}

// Shift returns a(x + c).
func Shift(a api.Poly, c api.Rat) api.Poly {
	out := slices.Clone(a)
	// Each round divides what lies above i by x - c, which leaves the next coefficient of the powers of x - c.
	for i := range out {
		for j := len(out) - 2; j >= i; j-- {
			out[j] = rational.Add(out[j], rational.Mul(c, out[j+1]))
		}
	}
	return Trim(out)
}
