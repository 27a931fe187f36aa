package mpoly

import (
	"container/heap"
	"slices"

	"quadrature/api"
	"quadrature/rational"
)

// Div returns the polynomial q with a = q b, and true; or 0 and false if there is none or b is 0.
func Div(a, b api.MPoly) (api.MPoly, bool) {
	if len(b) == 0 {
		return nil, false
	}
	if len(a) == 0 {
		return nil, true
	}
	if len(b) == 1 {
		return byTerm(a, b[0])
	}
	u, a := split(a)
	w, b := split(b)
	// By Gauss's lemma, the coefficients of the quotient are integers now.
	q, ok := quotient(a, b)
	if !ok {
		return nil, false
	}
	c, _ := rational.Div(u, w)
	return Scale(q, c), true
}

// byTerm returns the quotient of a and the term x, and true; or 0 and false if there is none.
func byTerm(a api.MPoly, x api.Mono) (api.MPoly, bool) {
	c, err := rational.Div(rational.Whole(1), x.C)
	q := multiple(a, minus(exponents{}, x.E), c)
	if err != api.OK || slices.ContainsFunc(q, func(y api.Mono) bool { return negative(y.E) }) {
		return nil, false
	}
	return q, true
}

// quotient returns the polynomial q with a = q b and integers as coefficients, and true; or 0 and false if there is none. Neither a nor b is 0.
func quotient(a, b api.MPoly) (api.MPoly, bool) {
	// The degrees of a product are the sums of those of its factors, and so are its least exponents. This excludes many quotients before their terms have been found.
	aLow, aHigh := bounds(a)
	bLow, bHigh := bounds(b)
	least, most := minus(aLow, bLow), minus(aHigh, bHigh)
	if negative(least) {
		return nil, false
	}
	rest := dividend(a)
	var q api.MPoly
	for rest.Len() > 0 {
		x := rest.next()
		if rational.Sign(x.C) == 0 {
			continue
		}
		e := minus(x.E, b[0].E)
		c, err := rational.Div(x.C, b[0].C)
		if err != api.OK || !integer(c) || negative(minus(e, least)) || negative(minus(most, e)) {
			return nil, false
		}
		q = append(q, api.Mono{E: e, C: c})
		for _, z := range b[1:] {
			rest.add(plus(z.E, e), rational.Neg(rational.Mul(z.C, c)))
		}
	}
	return q, true
}

// bounds returns the least and the greatest exponents of the variables in a, which is not 0.
func bounds(a api.MPoly) (exponents, exponents) {
	low, high := exponents(a[0].E), exponents(a[0].E)
	for _, x := range a[1:] {
		for v, n := range x.E {
			low[v], high[v] = min(low[v], n), max(high[v], n)
		}
	}
	return low, high
}

// remainder is what is left of a dividend: the coefficients of its terms, and a heap of their exponents, the greatest first.
type remainder struct {
	c    map[exponents]api.Rat
	heap []exponents
}

// dividend returns a as a remainder.
func dividend(a api.MPoly) *remainder {
	r := &remainder{c: map[exponents]api.Rat{}}
	// The exponents are a heap, because they are ordered.
	for _, x := range a {
		r.c[x.E] = x.C
		r.heap = append(r.heap, x.E)
	}
	return r
}

// Len is a method of heap.Interface.
func (r *remainder) Len() int { return len(r.heap) }

// Less is a method of heap.Interface.
func (r *remainder) Less(i, k int) bool { return compare(r.heap[i], r.heap[k]) > 0 }

// Swap is a method of heap.Interface.
func (r *remainder) Swap(i, k int) { r.heap[i], r.heap[k] = r.heap[k], r.heap[i] }

// Push is a method of heap.Interface.
func (r *remainder) Push(x any) {
	if e, ok := x.(exponents); ok {
		r.heap = append(r.heap, e)
	}
}

// Pop is a method of heap.Interface.
func (r *remainder) Pop() any {
	last := len(r.heap) - 1
	e := r.heap[last]
	r.heap = r.heap[:last]
	return e
}

// add adds a term.
func (r *remainder) add(e exponents, c api.Rat) {
	if old, ok := r.c[e]; ok {
		r.c[e] = rational.Add(old, c)
		return
	}
	r.c[e] = c
	heap.Push(r, e)
}

// next removes the first term, which may be 0, and returns it. Its exponents are kept among the known ones, as no greater or equal ones are added after that: a division ends in any case.
func (r *remainder) next() api.Mono {
	e := r.heap[0]
	heap.Pop(r)
	return api.Mono{E: e, C: r.c[e]}
}
