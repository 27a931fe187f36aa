package mgcd

import (
	"cmp"
	"math/bits"
	"slices"

	"quadrature/api"
)

// modular returns a greatest common divisor of a and b, which have the same variables, and integers without a common divisor as coefficients. In each of them, the degree of the divisor is at most most, which is positive.
// The divisor is found modulo prime numbers. It divides both a and b, and its first term is not less than that of any common divisor, so it is a greatest one.
func modular(a, b api.MPoly, most exponents) api.MPoly {
	order, k := ranking(most)
	x, y := arrange(a, order), arrange(b, order)
	lead := measure(x[0].C, y[0].C)
	known, least := &lift{order: order}, x[0].E
	tries := 0
	for p := largest; ; p = p.next() {
		c := p.of(lead)
		if c == 0 {
			continue
		}
		// If the numbers were unlucky each time, some further ones are not.
		s := search{field: p, most: permute(most, order), extra: bits.Len(uint(tries))}
		tries++
		g := s.divisor(p.image(x), p.image(y), k)
		switch compare(g[0].e, least) {
		case -1:
			// Modulo all prime numbers before, there were further divisors.
			known, least = &lift{order: order}, g[0].e
		case 1:
			continue
		}
		if !known.include(p, p.multiple(g, c)) {
			continue
		}
		if g := known.polynomial(); divides(g, a) && divides(g, b) {
			return g
		}
	}
}

// ranking returns the variables in the order of decreasing bounds, because the first one needs no interpolation, and how many bounds are positive.
func ranking(most exponents) ([api.MaxVars]int, int) {
	var order [api.MaxVars]int
	k := 0
	for v, n := range most {
		order[v] = v
		if n > 0 {
			k++
		}
	}
	slices.SortStableFunc(order[:], func(v, w int) int { return cmp.Compare(most[w], most[v]) })
	return order, k
}

// permute returns the exponents of the variables in the given order.
func permute(e exponents, order [api.MaxVars]int) exponents {
	var out exponents
	for i, v := range order {
		out[i] = e[v]
	}
	return out
}

// arrange returns the terms of a for the variables in the given order.
func arrange(a api.MPoly, order [api.MaxVars]int) []api.Mono {
	out := make([]api.Mono, len(a))
	for i, x := range a {
		out[i] = api.Mono{E: permute(x.E, order), C: x.C}
	}
	slices.SortFunc(out, func(x, y api.Mono) int { return compare(y.E, x.E) })
	return out
}

// image returns the image of the terms a.
func (p field) image(a []api.Mono) image {
	var out image
	for _, x := range a {
		if c := p.of(x.C); c != 0 {
			out = append(out, entry{x.E, c})
		}
	}
	return out
}
