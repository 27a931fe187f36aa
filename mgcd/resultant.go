package mgcd

import (
	"math/bits"
	"slices"

	"quadrature/api"
	"quadrature/mpoly"
	"quadrature/rational"
)

// Resultant returns the determinant of Sylvester's matrix of a and b with respect to v.
func Resultant(a, b api.MPoly, v int) api.MPoly {
	if !valid(a, b) || len(a) == 0 || len(b) == 0 {
		return nil
	}
	m, n := mpoly.Deg(a, v), mpoly.Deg(b, v)
	u, a := whole(a)
	w, b := whole(b)
	factor := mpoly.Mul(mpoly.Pow(mpoly.Const(u), n), mpoly.Pow(mpoly.Const(w), m))
	if s, ok := outlook(a, b, v); ok {
		return mpoly.Mul(factor, s.resultant(a, b))
	}
	return mpoly.Mul(factor, eliminate(a, b, v))
}

// survey says which values of a resultant determine it.
type survey struct {
	// order has the variable by which the resultant is taken, and then the others.
	order [api.MaxVars]int
	// most has bounds of the degrees of the resultant in these variables.
	most exponents
	// primes is how many prime numbers have a product of more than twice each coefficient.
	primes int
}

// affordable is how many steps values may take.
const affordable = 1 << 30

// outlook returns the survey for the resultant of a and b, which are not 0 and have integers as coefficients, and whether values are better than elimination. They are not if the resultant has few terms for its degrees.
func outlook(a, b api.MPoly, v int) (survey, bool) {
	m, n := mpoly.Deg(a, v), mpoly.Deg(b, v)
	x, y := degrees(a), degrees(b)
	if m == 0 || n == 0 || max(slices.Max(x[:]), slices.Max(y[:])) > widest {
		return survey{}, false
	}
	s := survey{order: [api.MaxVars]int{v}, primes: (n*width(a)+m*width(b)+1)/61 + 1}
	next, points := 1, 1
	for w := range api.MaxVars {
		if w == v {
			continue
		}
		s.order[next], s.most[next] = w, height(a, b, v, w)
		if s.most[next] >= affordable/points {
			return survey{}, false
		}
		points *= s.most[next] + 1
		next++
	}
	// Interpolation takes some steps for each pair of points.
	steps := (m+1)*(n+1) + 4*(s.most[1]+s.most[2]+s.most[3])
	// Each term of the resultant is a product of n terms of a and m terms of b.
	terms := choices(len(a), n) * choices(len(b), m)
	return s, steps <= affordable/points/s.primes && points/8 <= terms
}

// choices returns in how many ways n things of the given number of kinds can be chosen, or affordable if there are more.
func choices(kinds, n int) int {
	k, l := min(n, kinds-1), max(n, kinds-1)
	out := 1
	for i := 1; i <= k && out < affordable; i++ {
		out = out * (l + i) / i
	}
	return min(out, affordable)
}

// width returns the number of bits of the sum of the absolute values of the coefficients of a. No coefficient of a determinant is greater than the product of these sums for all its rows.
func width(a api.MPoly) int {
	sum := rational.Whole(0)
	for _, x := range a {
		x.C.Num.Neg = false
		sum = rational.Add(sum, x.C)
	}
	last := len(sum.Num.Mag) - 1
	return 32*last + bits.Len32(sum.Num.Mag[last])
}

// height returns a bound of the degree in w of the resultant of a and b by v. In all products of elements of Sylvester's matrix, one from each row and column, the exponents of v in their terms have the same sum, m n. So v may count as w or 1/w.
func height(a, b api.MPoly, v, w int) int {
	m, n := mpoly.Deg(a, v), mpoly.Deg(b, v)
	least := n*mpoly.Deg(a, w) + m*mpoly.Deg(b, w)
	for _, power := range []int{-1, 1} {
		least = min(least, n*weight(a, v, w, power)+m*weight(b, v, w, power)-power*m*n)
	}
	// If a bound is negative, the resultant is 0.
	return max(least, 0)
}

// weight returns the degree of a in w if v counts as the given power of w.
func weight(a api.MPoly, v, w, power int) int {
	most := a[0].E[w] + power*a[0].E[v]
	for _, x := range a {
		most = max(most, x.E[w]+power*x.E[v])
	}
	return most
}

// resultant returns the resultant of a and b. It is found modulo prime numbers, from values for numbers in place of all variables but one.
func (s survey) resultant(a, b api.MPoly) api.MPoly {
	x, y := arrange(a, s.order), arrange(b, s.order)
	known := &lift{order: s.order}
	for p := largest; known.primes < s.primes; p = p.next() {
		f, g := p.image(x), p.image(y)
		// If a degree falls, Sylvester's matrix is another one.
		if f.degree(0) == x[0].E[0] && g.degree(0) == y[0].E[0] {
			known.include(p, s.modulo(p, f, g, api.MaxVars))
		}
	}
	return known.polynomial()
}

// modulo returns the resultant of a and b by the variable 0 modulo p. The variables from k on do not occur, and k > 0.
func (s survey) modulo(p field, a, b image, k int) image {
	v := k - 1
	if v == 0 {
		return image{}.put(exponents{}, line{p.resultant(a.lead(0), b.lead(0))}, 0)
	}
	m, n := a.degree(v), b.degree(v)
	if m == 0 && n == 0 {
		return s.modulo(p, a, b, v)
	}
	known := &samples{field: p}
	for x := numbers[v]; len(known.points) <= s.most[v]; x = p.add(x, numbers[v]) {
		row := p.powers(x, max(m, n)+1)
		f, g := p.at(a, v, row), p.at(b, v, row)
		if f.degree(0) == a.degree(0) && g.degree(0) == b.degree(0) {
			known.include(x, s.modulo(p, f, g, v))
		}
	}
	return known.polynomial(v)
}
