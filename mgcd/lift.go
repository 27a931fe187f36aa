package mgcd

import (
	"quadrature/api"
	"quadrature/mpoly"
	"quadrature/rational"
)

// lift is a polynomial with integer coefficients, of which the images modulo some prime numbers are known.
type lift struct {
	order [api.MaxVars]int
	// primes is the number of the prime numbers, and modulus their product.
	primes  int
	modulus api.Rat
	// terms has, for the exponents of each term, the number nearest to 0 that is its coefficient modulo all prime numbers.
	terms map[exponents]api.Rat
}

// include adds the image g, and reports whether the polynomial has stayed the same, or g is the only image.
func (l *lift) include(p field, g image) bool {
	alone := l.primes == 0
	if alone {
		l.modulus, l.terms = rational.Whole(1), map[exponents]api.Rat{}
	}
	residues := map[exponents]uint64{}
	for _, x := range g {
		residues[x.e] = x.c
		if _, ok := l.terms[x.e]; !ok {
			l.terms[x.e] = rational.Whole(0)
		}
	}
	inverse, same := p.inverse(p.of(l.modulus)), true
	for e, c := range l.terms {
		if digit := p.mul(p.sub(residues[e], p.of(c)), inverse); digit != 0 {
			l.terms[e] = rational.Add(c, rational.Mul(l.modulus, rational.Whole(p.least(digit))))
			same = false
		}
	}
	l.primes++
	l.modulus = rational.Mul(l.modulus, rational.Whole(int64(p)))
	return alone || same
}

// polynomial returns the polynomial.
func (l *lift) polynomial() api.MPoly {
	var out []api.Mono
	for e, c := range l.terms {
		x := api.Mono{C: c}
		for i, v := range l.order {
			x.E[v] = e[i]
		}
		out = append(out, x)
	}
	return mpoly.Make(out)
}
