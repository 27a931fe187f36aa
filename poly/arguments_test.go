package poly_test

import (
	"math/rand"
	"slices"
	"testing"

	"quadrature/api"
	"quadrature/integer"
	"quadrature/poly"
	"quadrature/rational"
)

// callAll calls all functions, and returns their results.
func callAll(a, b api.Poly, c api.Rat) []api.Poly {
	poly.Valid(a)
	poly.Equal(a, b)
	q, r, _ := poly.DivMod(a, b)
	g, s, u := poly.Ext(a, b)
	out := []api.Poly{
		poly.Trim(a), poly.Add(a, b), poly.Sub(a, b), poly.Mul(a, b), poly.Scale(a, c), poly.Monic(a), q, r, poly.Gcd(a, b), g, s, u,
		poly.Diff(a), {poly.Eval(a, c)}, poly.Shift(a, c), {poly.Resultant(a, b)},
	}
	for _, f := range poly.Squarefree(a) {
		out = append(out, f.P, api.Poly{rational.Whole(int64(f.N))})
	}
	return out
}

// guarded returns a copy of m with spare room behind it that is not the functions' to write to, either.
func guarded(m []uint32) []uint32 { return append(slices.Clone(m), 11, 12, 13)[:len(m)] }

// wrap returns a copy of c with guarded limbs.
func wrap(c api.Rat) api.Rat {
	c.Num.Mag, c.Den.Mag = guarded(c.Num.Mag), guarded(c.Den.Mag)
	return c
}

// wrapAll returns a copy of p with guarded coefficients, and a further one behind them.
func wrapAll(p api.Poly) api.Poly {
	var out api.Poly
	for _, c := range p {
		out = append(out, wrap(c))
	}
	return append(out, wrap(rational.Whole(7)))[:len(p)]
}

// untouched reports whether a guarded copy of p still is one.
func untouched(copied, p api.Poly) bool {
	behind := append(slices.Clone(p), rational.Whole(7))
	whole := copied[:len(p)+1]
	intact := func(m []uint32) bool { return slices.Equal(m[:len(m)+3][len(m):], []uint32{11, 12, 13}) }
	for _, c := range whole {
		if !intact(c.Num.Mag) || !intact(c.Den.Mag) {
			return false
		}
	}
	return same(whole, behind)
}

func TestArgumentsAreNotModified(t *testing.T) {
	r := rand.New(rand.NewSource(81))
	pairs(82, 300, 6, func(a, b api.Poly) {
		c := coefficient(r)
		x, y, z := wrapAll(a), wrapAll(b), wrapAll(api.Poly{c})
		for _, other := range []api.Poly{x, y, nil, {rational.Whole(1)}} {
			callAll(x, other, z[0])
			callAll(other, x, z[0])
		}
		if !untouched(x, a) || !untouched(y, b) || !untouched(z, api.Poly{c}) {
			t.Fatalf("%s, %s, %v were modified", text(a), text(b), c)
		}
	})
}

func TestResultsDependOnArgumentsOnly(t *testing.T) {
	r := rand.New(rand.NewSource(83))
	pairs(84, 300, 6, func(a, b api.Poly) {
		c := coefficient(r)
		first := callAll(a, b, c)
		callAll(b, a, c)
		if again := callAll(wrapAll(a), wrapAll(b), wrap(c)); !slices.EqualFunc(first, again, same) {
			t.Fatalf("%s, %s, %v: %v, then %v", text(a), text(b), c, first, again)
		}
	})
}

// mustNotShare checks that no two slices among the results of one call share memory.
func mustNotShare(t *testing.T, call string, results ...api.Poly) {
	t.Helper()
	coefficients, limbs := map[*api.Rat]bool{}, map[*uint32]bool{}
	for _, p := range results {
		for i, c := range p {
			if coefficients[&p[i]] {
				t.Fatalf("%s: two polynomials share their coefficients", call)
			}
			coefficients[&p[i]] = true
			for _, m := range [][]uint32{c.Num.Mag, c.Den.Mag} {
				if len(m) > 0 && limbs[&m[0]] {
					t.Fatalf("%s: two coefficients share their limbs", call)
				}
				if len(m) > 0 {
					limbs[&m[0]] = true
				}
			}
		}
	}
}

func TestPartsOfAResultShareNoMemory(t *testing.T) {
	r := rand.New(rand.NewSource(85))
	pairs(86, 300, 6, func(a, b api.Poly) {
		a, b, c := wrapAll(a), wrapAll(b), wrap(coefficient(r))
		q, rest, _ := poly.DivMod(a, b)
		mustNotShare(t, "DivMod", q, rest)
		g, s, u := poly.Ext(a, b)
		mustNotShare(t, "Ext", g, s, u)
		square := poly.Mul(a, a)
		var factors []api.Poly
		for _, f := range poly.Squarefree(poly.Mul(square, b)) {
			factors = append(factors, f.P)
		}
		mustNotShare(t, "Squarefree", factors...)
		for _, p := range []api.Poly{poly.Add(a, b), poly.Sub(a, b), square, poly.Scale(a, c), poly.Monic(a), poly.Gcd(a, b), poly.Diff(a), poly.Shift(a, c)} {
			mustNotShare(t, "another function", p)
		}
	})
}

// TestInvalidArgumentsDoNoHarm has arguments for which the results are unspecified: the functions must return nevertheless.
func TestInvalidArgumentsDoNoHarm(t *testing.T) {
	numbers := []api.Rat{
		{}, raw(0, 1), raw(1, 1), raw(-2, 3), raw(1, 0), raw(0, 0), raw(3, -1), raw(2, 4), raw(0, 5),
		{Num: api.Int{Mag: []uint32{0, 0}}, Den: api.Int{Neg: true, Mag: []uint32{1, 0}}}, {Num: integer.Of(5), Den: api.Int{Neg: true}},
	}
	var all []api.Poly
	for _, c := range numbers {
		all = append(all, api.Poly{c})
		for _, d := range numbers {
			all = append(all, api.Poly{c, d}, api.Poly{d, raw(1, 2), c}, api.Poly{raw(1, 1), c, raw(2, 1), d, d})
		}
	}
	for i, a := range all {
		// The stride has no factor in common with the number of kinds: every kind meets every other one.
		for k := i % 7; k < len(all); k += 7 {
			callAll(a, all[k], numbers[(i+k)%len(numbers)])
		}
	}
}
