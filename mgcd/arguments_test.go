package mgcd_test

import (
	"math"
	"math/rand"
	"slices"
	"testing"

	"quadrature/api"
	"quadrature/integer"
	"quadrature/mgcd"
	"quadrature/rational"
)

// callAll calls all functions, and returns their results.
func callAll(a, b api.MPoly, v int) []api.MPoly {
	out := []api.MPoly{mgcd.Normal(a), mgcd.Gcd(a, b), mgcd.Content(a, v), mgcd.Primitive(a, v), mgcd.Resultant(a, b, v)}
	for _, f := range mgcd.Squarefree(a, v) {
		out = append(out, f.P, api.MPoly{{C: rational.Whole(int64(f.N))}})
	}
	return out
}

// guarded returns a copy of m with spare room behind it that is not the functions' to write to, either.
func guarded(m []uint32) []uint32 { return append(slices.Clone(m), 11, 12, 13)[:len(m)] }

// wrap returns a copy of c with guarded limbs.
func wrap(c api.Rat) api.Rat {
	c.Num.Mag, c.Den.Mag = guarded(c.Num.Mag), guarded(c.Den.Mag)
	return c
}

// wrapAll returns a copy of p with guarded coefficients, and a further term behind them.
func wrapAll(p api.MPoly) api.MPoly {
	var out api.MPoly
	for _, x := range append(slices.Clone(p), api.Mono{C: rational.Whole(7)}) {
		out = append(out, api.Mono{E: x.E, C: wrap(x.C)})
	}
	return out[:len(p)]
}

// untouched reports whether a guarded copy of p still is one.
func untouched(copied, p api.MPoly) bool {
	whole := copied[:len(p)+1]
	intact := func(m []uint32) bool { return slices.Equal(m[:len(m)+3][len(m):], []uint32{11, 12, 13}) }
	for _, x := range whole {
		if !intact(x.C.Num.Mag) || !intact(x.C.Den.Mag) {
			return false
		}
	}
	return same(whole, append(slices.Clone(p), api.Mono{C: rational.Whole(7)}))
}

// arguments returns polynomials with common divisors, multiple factors, contents and fractions.
func arguments(r *rand.Rand) (api.MPoly, api.MPoly) {
	in := r.Perm(4)[:1+r.Intn(3)]
	a, b, c := sample(r, 3, 2, in...), sample(r, 3, 2, in...), sample(r, 3, 1, in...)
	return product(a, c, c), product(b, c)
}

func TestArgumentsAreNotModified(t *testing.T) {
	r := rand.New(rand.NewSource(251))
	for range 500 {
		a, b := arguments(r)
		x, y := wrapAll(a), wrapAll(b)
		for v := range 4 {
			callAll(x, y, v)
			callAll(y, x, v)
			callAll(x, x, v)
			callAll(x, nil, v)
		}
		if !untouched(x, a) || !untouched(y, b) {
			t.Fatalf("%s were modified", texts(a, b))
		}
	}
}

func TestResultsDependOnArgumentsOnly(t *testing.T) {
	r := rand.New(rand.NewSource(252))
	for range 300 {
		a, b := arguments(r)
		v := r.Intn(4)
		first := callAll(a, b, v)
		for range 3 {
			callAll(b, a, v)
			if again := callAll(wrapAll(a), wrapAll(b), v); !slices.EqualFunc(first, again, same) {
				t.Fatalf("%s: %s, then %s", texts(a, b), texts(first...), texts(again...))
			}
		}
	}
}

// mustNotShare checks that no two slices of one result share memory.
func mustNotShare(t *testing.T, call string, results ...api.MPoly) {
	t.Helper()
	terms, limbs := map[*api.Mono]bool{}, map[*uint32]bool{}
	for _, p := range results {
		for i, x := range p {
			if terms[&p[i]] {
				t.Fatalf("%s: two polynomials share their terms", call)
			}
			terms[&p[i]] = true
			for _, m := range [][]uint32{x.C.Num.Mag, x.C.Den.Mag} {
				if len(m) > 0 && limbs[&m[0]] {
					t.Fatalf("%s: two coefficients share their limbs", call)
				}
				if len(m) > 0 {
					limbs[&m[0]] = true
				}
			}
		}
	}
}

func TestPartsOfAResultShareNoMemory(t *testing.T) {
	r := rand.New(rand.NewSource(253))
	for range 1000 {
		a, b := arguments(r)
		a, b = wrapAll(a), wrapAll(b)
		for v := range 4 {
			for i, p := range []api.MPoly{mgcd.Normal(a), mgcd.Gcd(a, b), mgcd.Gcd(mgcd.Normal(a), b), mgcd.Gcd(a, a), mgcd.Content(a, v), mgcd.Primitive(a, v), mgcd.Primitive(mgcd.Normal(a), v), mgcd.Resultant(a, b, v)} {
				mustNotShare(t, "function "+string(rune('a'+i)), p)
			}
			var factors []api.MPoly
			for _, f := range mgcd.Squarefree(a, v) {
				factors = append(factors, f.P)
			}
			mustNotShare(t, "Squarefree of "+text(a), factors...)
		}
	}
}

func TestNilAndEmptyAreTheSame(t *testing.T) {
	a, empty := of(t, "(y + x)^2 (x + 1)(y)"), api.MPoly{}
	for v := range 4 {
		for _, x := range [][2][2]api.MPoly{{{nil, a}, {empty, a}}, {{a, nil}, {a, empty}}, {{nil, nil}, {empty, empty}}} {
			first, second := callAll(x[0][0], x[0][1], v), callAll(x[1][0], x[1][1], v)
			if !slices.EqualFunc(first, second, same) {
				t.Errorf("%s for nil, %s for the empty list", texts(first...), texts(second...))
			}
		}
	}
}

// TestInvalidArgumentsDoNoHarm has arguments for which the results are unspecified: the functions must return nevertheless.
func TestInvalidArgumentsDoNoHarm(t *testing.T) {
	numbers := []api.Rat{
		{}, raw(0, 1), raw(1, 1), raw(-2, 3), raw(1, 0), raw(0, 0), raw(3, -1), raw(2, 4), raw(0, 5), raw(5, 1),
		{Num: api.Int{Mag: []uint32{0, 0}}, Den: api.Int{Neg: true, Mag: []uint32{1, 0}}}, {Num: integer.Of(5), Den: api.Int{Neg: true}},
	}
	exponents := []int{0, 0, 1, 2, 3, -1, -2, math.MaxInt, math.MinInt, math.MaxInt32 + 1}
	r := rand.New(rand.NewSource(254))
	row := func() api.MPoly {
		var out api.MPoly
		for range r.Intn(5) {
			x := api.Mono{C: numbers[r.Intn(len(numbers))]}
			for v := range 4 {
				x.E[v] = exponents[r.Intn(len(exponents))]
			}
			out = append(out, x)
		}
		return out
	}
	for range 20000 {
		a, b := row(), row()
		if isValid(a) || isValid(b) {
			continue
		}
		callAll(a, b, r.Intn(7)-1)
	}
	good := of(t, "(x + 1)^2 (y + x)")
	for _, s := range []string{"x - x", "x + x", "1 + x", "x + y", "x - x + 1", "1 + x^-1", "x + 0 x", "0 x + x", "x^-1 + x^2", "x^-1 - x^-1", "0 1", "0 x"} {
		for v := range 4 {
			callAll(good, terms(t, s), v)
			callAll(terms(t, s), good, v)
			callAll(terms(t, s), terms(t, s), v)
		}
	}
	for _, v := range []int{-1, 4, math.MinInt, math.MaxInt} {
		callAll(good, of(t, "x + 1"), v)
		callAll(nil, good, v)
	}
}
