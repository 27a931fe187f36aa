package frac_test

import (
	"math"
	"math/rand"
	"slices"
	"testing"

	"quadrature/api"
	"quadrature/frac"
	"quadrature/integer"
	"quadrature/mpoly"
	"quadrature/rational"
)

// outcome is what a call returns.
type outcome struct {
	f   api.Frac
	err api.Errno
	n   int
}

// result returns the result of a call that can fail.
func result(f api.Frac, err api.Errno) outcome { return outcome{f: f, err: err} }

// whether returns the result of a call that tells whether something is so.
func whether(ok bool) outcome {
	if ok {
		return outcome{n: 1}
	}
	return outcome{}
}

// callAll calls all functions, and returns their results.
func callAll(a, b api.Frac, v, n int, c api.Rat) []outcome {
	return []outcome{
		result(frac.Of(a.N, b.N)), result(frac.Of(a.N, mpoly.Mul(a.N, b.D))), {f: frac.Poly(a.N)}, {f: frac.Const(c)}, {f: frac.Var(v)}, whether(frac.Valid(a)), whether(frac.Equal(a, b)), whether(frac.Zero(a)),
		{f: frac.Neg(a)}, {f: frac.Add(a, b)}, {f: frac.Sub(a, b)}, {f: frac.Mul(a, b)}, result(frac.Div(a, b)), result(frac.Pow(a, n)), result(frac.Pow(a, -n)),
		{f: frac.Partial(a, v)}, result(frac.Subst(a, v, b)), result(frac.Eval(a, v, c)), {n: frac.Top(a)},
	}
}

// sameOutcome reports whether two calls have the same result.
func sameOutcome(x, y outcome) bool { return same(x.f, y.f) && x.err == y.err && x.n == y.n }

// spare are limbs behind those of a number, which are not the functions' to write to, either.
var spare = []uint32{11, 12, 13}

// guarded returns a copy of a with spare limbs.
func guarded(a api.Int) api.Int {
	m := slices.Concat(a.Mag, spare)
	return api.Int{Neg: a.Neg, Mag: m[:len(a.Mag)]}
}

// wrap returns a copy of c with guarded numbers.
func wrap(c api.Rat) api.Rat { return api.Rat{Num: guarded(c.Num), Den: guarded(c.Den)} }

// last is a further term behind those of a polynomial.
var last = api.Mono{E: [4]int{1, 2, 3, 4}, C: rational.Whole(7)}

// wrapPoly returns a copy of p with guarded numbers, and with a further term behind it.
func wrapPoly(p api.MPoly) api.MPoly {
	out := append(slices.Clone(p), last)
	for i := range out {
		out[i].C = wrap(out[i].C)
	}
	return out[:len(p)]
}

// wrapFrac returns a copy of f with guarded polynomials.
func wrapFrac(f api.Frac) api.Frac { return api.Frac{N: wrapPoly(f.N), D: wrapPoly(f.D)} }

// untouchedPoly reports whether a guarded copy of p still is one.
func untouchedPoly(copied, p api.MPoly) bool {
	whole := copied[:len(p)+1]
	for _, x := range whole {
		for _, m := range [][]uint32{x.C.Num.Mag, x.C.Den.Mag} {
			if !slices.Equal(m[:len(m)+len(spare)][len(m):], spare) {
				return false
			}
		}
	}
	return samePoly(whole, append(slices.Clone(p), last))
}

// untouched reports whether a guarded copy of f still is one.
func untouched(copied, f api.Frac) bool {
	return untouchedPoly(copied.N, f.N) && untouchedPoly(copied.D, f.D)
}

func TestArgumentsAreNotModified(t *testing.T) {
	fractions(281, 200, 3, 2, func(r *rand.Rand, a, b, c api.Frac) {
		c = frac.Mul(c, a)
		number := mpoly.Const(coefficient(r))
		x, y, z, n := wrapFrac(a), wrapFrac(b), wrapFrac(c), wrapPoly(number)
		k := frac.Const(n[0].C)
		for v := range 4 {
			for _, l := range [][2]api.Frac{{x, y}, {y, x}, {x, x}, {x, z}, {z, y}, {x, k}, {k, x}} {
				callAll(l[0], l[1], v, r.Intn(4), n[0].C)
			}
		}
		if !untouched(x, a) || !untouched(y, b) || !untouched(z, c) || !untouchedPoly(n, number) {
			t.Fatalf("%s or %s were modified", text(a, b, c), polyText(number))
		}
	})
}

func TestResultsDependOnArgumentsOnly(t *testing.T) {
	fractions(282, 200, 3, 2, func(r *rand.Rand, a, b, _ api.Frac) {
		v, n, c := r.Intn(4), r.Intn(4), coefficient(r)
		first := callAll(a, b, v, n, c)
		for range 3 {
			callAll(b, a, v, n, c)
			if again := callAll(wrapFrac(a), wrapFrac(b), v, n, wrap(c)); !slices.EqualFunc(first, again, sameOutcome) {
				t.Fatalf("%s: %v, then %v", text(a, b), first, again)
			}
		}
	})
}

// mustNotShare checks that no two slices of f share memory.
func mustNotShare(t *testing.T, call string, f api.Frac) {
	t.Helper()
	terms, limbs := map[*api.Mono]bool{}, map[*uint32]bool{}
	for _, p := range []api.MPoly{f.N, f.D} {
		for i, x := range p {
			if terms[&p[i]] {
				t.Fatalf("%s: numerator and denominator share terms", call)
			}
			terms[&p[i]] = true
			for _, m := range [][]uint32{x.C.Num.Mag, x.C.Den.Mag} {
				if len(m) > 0 && limbs[&m[0]] {
					t.Fatalf("%s: numbers share limbs", call)
				}
				if len(m) > 0 {
					limbs[&m[0]] = true
				}
			}
		}
	}
}

func TestPartsOfAResultShareNoMemory(t *testing.T) {
	fractions(283, 500, 3, 2, func(r *rand.Rand, a, b, _ api.Frac) {
		a, b = wrapFrac(a), wrapFrac(b)
		for i, x := range callAll(a, b, r.Intn(4), r.Intn(4), wrap(coefficient(r))) {
			mustNotShare(t, "function "+string(rune('a'+i))+" of "+text(a, b), x.f)
		}
		for i, x := range callAll(a, a, r.Intn(4), 1, wrap(coefficient(r))) {
			mustNotShare(t, "function "+string(rune('a'+i))+" of equal "+text(a), x.f)
		}
		// Sums share memory with what has been added.
		d := mpoly.Add(a.D, poly(t, "w^9 + 1"))
		f, _ := frac.Of(a.D, d)
		mustNotShare(t, "Of "+text(f), f)
		f, _ = frac.Of(d, a.D)
		mustNotShare(t, "Of "+text(f), f)
	})
}

func TestNilAndEmptyAreTheSame(t *testing.T) {
	one, c := poly(t, "1"), rational.Whole(2)
	zero, empty := api.Frac{D: one}, api.Frac{N: api.MPoly{}, D: one}
	for _, a := range []api.Frac{of(t, "1 // x"), of(t, "x y + 1 // (y + x)^2"), zero, empty} {
		for v := range 4 {
			for _, x := range [][2][]outcome{{callAll(a, zero, v, 2, c), callAll(a, empty, v, 2, c)}, {callAll(zero, a, v, 2, c), callAll(empty, a, v, 2, c)}} {
				if !slices.EqualFunc(x[0], x[1], sameOutcome) {
					t.Errorf("%s: %v for nil, %v for the empty list", text(a), x[0], x[1])
				}
			}
		}
	}
}

// TestInvalidArgumentsDoNoHarm has arguments for which the results are unspecified: the functions must return nevertheless.
func TestInvalidArgumentsDoNoHarm(t *testing.T) {
	numbers := []api.Rat{
		{}, raw(0, 1), raw(1, 1), raw(-2, 3), raw(1, 0), raw(0, 0), raw(3, -1), raw(2, 4), raw(0, 5), raw(5, 1), raw(1, 1), raw(1, 1),
		{Num: api.Int{Mag: []uint32{0, 0}}, Den: api.Int{Neg: true, Mag: []uint32{1, 0}}}, {Num: integer.Of(5), Den: api.Int{Neg: true}},
	}
	exponents := []int{0, 0, 0, 0, 0, 1, 1, 2, 3, -1, -2}
	r := rand.New(rand.NewSource(284))
	row := func() api.MPoly {
		var out api.MPoly
		for range r.Intn(4) {
			x := api.Mono{C: numbers[r.Intn(len(numbers))]}
			for v := range 4 {
				x.E[v] = exponents[r.Intn(len(exponents))]
			}
			out = append(out, x)
		}
		return out
	}
	good := []api.MPoly{nil, poly(t, "1"), poly(t, "x + 1"), poly(t, "(y + x)^2 (x + 1)"), poly(t, "w z")}
	part := func() api.MPoly {
		if r.Intn(3) == 0 {
			return good[r.Intn(len(good))]
		}
		return row()
	}
	for range 30000 {
		a, b := api.Frac{N: part(), D: part()}, api.Frac{N: part(), D: part()}
		callAll(a, b, r.Intn(7)-1, r.Intn(4), numbers[r.Intn(len(numbers))])
	}
	for _, n := range []int{math.MinInt, -257, -256, 256, math.MaxInt} {
		frac.Pow(api.Frac{}, n)
		frac.Pow(api.Frac{N: good[1]}, n)
	}
}

func TestOtherVariablesDoNotOccur(t *testing.T) {
	a, b := of(t, "x y + z // w + 1"), of(t, "1 // x")
	for _, v := range []int{-1, 4, 5, math.MinInt, math.MaxInt} {
		mustBe(t, "Var", frac.Var(v), of(t, "0"))
		mustBe(t, "Partial", frac.Partial(a, v), of(t, "0"))
		f, err := frac.Subst(a, v, b)
		mustReturn(t, "Subst", f, err, a)
		f, err = frac.Eval(a, v, rational.Whole(2))
		mustReturn(t, "Eval", f, err, a)
	}
}

// TestFractionsWithoutAValue has the zero value, which is not valid, but which a call that fails returns.
func TestFractionsWithoutAValue(t *testing.T) {
	a := of(t, "x y + z // w + 1")
	for v := range 4 {
		callAll(api.Frac{}, api.Frac{}, v, 2, api.Rat{})
		callAll(a, api.Frac{}, v, 2, api.Rat{})
		callAll(api.Frac{}, a, v, 2, api.Rat{})
		callAll(api.Frac{N: a.N}, a, v, 2, rational.Whole(1))
		callAll(a, api.Frac{N: a.N}, v, 2, rational.Whole(1))
	}
}
