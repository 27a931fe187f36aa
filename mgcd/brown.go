package mgcd

import "slices"

// search looks for a greatest common divisor over a field by Brown's algorithm: with numbers in place of all variables but one, and by interpolation.
type search struct {
	field
	// most has bounds of the degrees of the divisor.
	most exponents
	// extra is how many more numbers than necessary are taken for each variable.
	extra int
}

// divisor returns the greatest common divisor of a and b, which are not 0, with the first coefficient 1. The variables from k on do not occur, and k > 0.
// If it is wrong, because too many numbers were taken for which there are further common divisors, its first term is too great.
func (s search) divisor(a, b image, k int) image {
	v := k - 1
	if v == 0 {
		return image{}.put(exponents{}, s.common(a.lead(0), b.lead(0)), 0)
	}
	c, a := s.primitive(a, v)
	d, b := s.primitive(b, v)
	lead := s.common(a.lead(v), b.lead(v))
	known := s.sample(a, b, lead, v)
	// The first coefficient of what is known is lead: a multiple of that of the divisor.
	_, g := s.primitive(known.polynomial(v), v)
	g = s.spread(g, s.common(c, d), v)
	return s.multiple(g, s.inverse(g[0].c))
}

// multiple returns c a, for c other than 0.
func (p field) multiple(a image, c uint64) image {
	out := slices.Clone(a)
	for i := range out {
		out[i].c = p.mul(out[i].c, c)
	}
	return out
}

// sample returns the values of the greatest common divisor of a and b, whose first coefficient is lead, at sufficiently many numbers in place of v.
func (s search) sample(a, b image, lead line, v int) *samples {
	known, least := &samples{field: s.field}, a[0].e
	m, n := a.degree(v), b.degree(v)
	need := min(s.most[v], m, n) + len(lead) + s.extra
	step := numbers[v]
	for x := step; len(known.points) < need; x = s.add(x, step) {
		c := s.value(lead, x)
		if c == 0 {
			continue
		}
		row := s.powers(x, max(m, n)+1)
		g := s.divisor(s.at(a, v, row), s.at(b, v, row), v)
		switch compare(g[0].e, least) {
		case -1:
			// For all numbers before, there were further divisors.
			known, least = &samples{field: s.field}, g[0].e
		case 1:
			continue
		}
		known.include(x, s.multiple(g, c))
		if least == (exponents{}) {
			break
		}
	}
	return known
}
