package matrix

import (
	"quadrature/api"
	"quadrature/rational"
)

// line is a row of a matrix: factor, which is not 0, times whole, whose elements are integers without a common divisor, or all 0. Lines are combined by their integers, which are added without a search for common divisors and stay as short as they can be; the factors matter for determinants only.
type line struct {
	factor api.Rat
	whole  []api.Rat
}

// lowered returns factor times row as a line.
func lowered(factor api.Rat, row []api.Rat) line {
	// All elements so far are integer multiples of unit, and these integers have no common divisor.
	unit := firstNonzero(row)
	whole := make([]api.Rat, 0, len(row))
	for _, x := range row {
		if isZero(x) {
			whole = append(whole, x)
			continue
		}
		q := quotient(x, unit)
		whole = append(whole, q)
		if !isOne(q.Den) {
			d := fromInt(q.Den)
			unit = quotient(unit, d)
			whole = scaled(whole, d)
		}
	}
	return line{rational.Mul(factor, unit), whole}
}

// without returns l less the multiple of p that makes its element in the given column 0. The element of p there must not be 0.
func (l line) without(p line, col int) line {
	if isZero(l.whole[col]) {
		return l
	}
	f := quotient(l.whole[col], p.whole[col])
	n, d := fromInt(f.Num), fromInt(f.Den)
	return lowered(quotient(l.factor, d), difference(d, l.whole, n, p.whole))
}

// difference returns the row c a - d b.
func difference(c api.Rat, a []api.Rat, d api.Rat, b []api.Rat) []api.Rat {
	return combine(a, b, func(x, y api.Rat) api.Rat {
		switch {
		case !isZero(y):
			return rational.Sub(rational.Mul(c, x), rational.Mul(d, y))
		case !isZero(x):
			return rational.Mul(c, x)
		}
		return x
	})
}

// combine returns the row whose elements are the values of f at those of a and b.
func combine(a, b []api.Rat, f func(x, y api.Rat) api.Rat) []api.Rat {
	return collect(len(a), func(i int) api.Rat { return f(a[i], b[i]) })
}

// scaled returns row times c.
func scaled(row []api.Rat, c api.Rat) []api.Rat {
	return collect(len(row), func(i int) api.Rat { return rational.Mul(row[i], c) })
}

// over returns row divided by c, for c other than 0.
func over(row []api.Rat, c api.Rat) []api.Rat {
	return collect(len(row), func(i int) api.Rat { return quotient(row[i], c) })
}

// zeros returns a row of n zeros.
func zeros(n int) []api.Rat {
	return collect(n, func(int) api.Rat { return rational.Whole(0) })
}

// collect returns the values of f at 0, 1, ..., n - 1.
func collect(n int, f func(i int) api.Rat) []api.Rat {
	out := make([]api.Rat, n)
	for i := range out {
		out[i] = f(i)
	}
	return out
}

// firstNonzero returns the first element of row that is not 0; 1 if there is none.
func firstNonzero(row []api.Rat) api.Rat {
	for _, x := range row {
		if !isZero(x) {
			return x
		}
	}
	return rational.Whole(1)
}

// quotient returns x/y, for y other than 0.
func quotient(x, y api.Rat) api.Rat {
	q, _ := rational.Div(x, y)
	return q
}

// fromInt returns n as a rational number.
func fromInt(n api.Int) api.Rat { return api.Rat{Num: n, Den: rational.Whole(1).Den} }

// isZero reports whether x is 0.
func isZero(x api.Rat) bool { return rational.Sign(x) == 0 }

// isOne reports whether n is 1.
func isOne(n api.Int) bool { return !n.Neg && len(n.Mag) == 1 && n.Mag[0] == 1 }
