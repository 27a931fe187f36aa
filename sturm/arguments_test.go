package sturm_test

import (
	"math/rand"
	"slices"
	"testing"

	"quadrature/api"
	"quadrature/integer"
	"quadrature/rational"
	"quadrature/sturm"
)

// callAll calls all functions, and returns their results as one list of lists.
func callAll(p api.Poly, lo, hi api.Rat) []api.Poly {
	out := slices.Clone(sturm.Chain(p))
	var integers api.Poly
	for _, n := range append(sturm.Integers(p), sturm.Bound(p)) {
		integers = append(integers, api.Rat{Num: n, Den: integer.Of(1)})
	}
	return append(out, integers, sturm.Rationals(p), api.Poly{rational.Whole(int64(sturm.Count(p, lo, hi)))})
}

// same reports whether a and b have the same numbers, in the same representation.
func same(a, b api.Poly) bool {
	return slices.EqualFunc(a, b, func(x, y api.Rat) bool {
		return x.Num.Neg == y.Num.Neg && x.Den.Neg == y.Den.Neg && slices.Equal(x.Num.Mag, y.Num.Mag) && slices.Equal(x.Den.Mag, y.Den.Mag)
	})
}

// guarded returns a copy of m with spare room behind it that is not the functions' to write to, either.
func guarded(m []uint32) []uint32 { return append(slices.Clone(m), 11, 12, 13)[:len(m)] }

// wrap returns a copy of p with guarded limbs, and a further coefficient behind its end.
func wrap(p api.Poly) api.Poly {
	var out api.Poly
	for _, c := range append(slices.Clone(p), rational.Whole(7)) {
		c.Num.Mag, c.Den.Mag = guarded(c.Num.Mag), guarded(c.Den.Mag)
		out = append(out, c)
	}
	return out[:len(p)]
}

// untouched reports whether a guarded copy of p still is one.
func untouched(copied, p api.Poly) bool {
	whole := copied[:len(p)+1]
	intact := func(m []uint32) bool { return slices.Equal(m[:len(m)+3][len(m):], []uint32{11, 12, 13}) }
	for _, c := range whole {
		if !intact(c.Num.Mag) || !intact(c.Den.Mag) {
			return false
		}
	}
	return same(whole, append(slices.Clone(p), rational.Whole(7)))
}

func TestArgumentsAreNotModified(t *testing.T) {
	r := rand.New(rand.NewSource(61))
	for i := range 400 {
		p, ends := sample(r, 7), api.Poly{coefficient(r), coefficient(r)}
		if i%2 == 0 {
			p = construct(r).p
		}
		copied, copiedEnds := wrap(p), wrap(ends)
		callAll(copied, copiedEnds[0], copiedEnds[1])
		callAll(copied, copiedEnds[1], copiedEnds[0])
		if !untouched(copied, p) || !untouched(copiedEnds, ends) {
			t.Fatalf("%s or %s was modified", text(p), text(ends))
		}
	}
}

func TestResultsDependOnArgumentsOnly(t *testing.T) {
	r := rand.New(rand.NewSource(62))
	for range 200 {
		p, other, lo, hi := sample(r, 7), construct(r).p, coefficient(r), coefficient(r)
		first := callAll(p, lo, hi)
		callAll(other, hi, lo)
		if again := callAll(wrap(p), lo, hi); !slices.EqualFunc(first, again, same) {
			t.Fatalf("%s: %s, then %s", text(p), textOfChain(first), textOfChain(again))
		}
	}
}

// mustNotShare checks that no two slices among the results of one call share memory, with each other or with the argument.
func mustNotShare(t *testing.T, call string, argument api.Poly, results ...api.Poly) {
	t.Helper()
	coefficients, limbs := map[*api.Rat]bool{}, map[*uint32]bool{}
	for _, p := range append([]api.Poly{argument}, results...) {
		for i, c := range p {
			if coefficients[&p[i]] {
				t.Fatalf("%s of %s: two lists share their numbers", call, text(argument))
			}
			coefficients[&p[i]] = true
			for _, m := range [][]uint32{c.Num.Mag, c.Den.Mag} {
				if len(m) == 0 {
					continue
				}
				if limbs[&m[0]] {
					t.Fatalf("%s of %s: two numbers share their limbs", call, text(argument))
				}
				limbs[&m[0]] = true
			}
		}
	}
}

func TestPartsOfAResultShareNoMemory(t *testing.T) {
	r := rand.New(rand.NewSource(63))
	for i := range 300 {
		p := wrap(sample(r, 7))
		if i%2 == 0 {
			p = wrap(construct(r).p)
		}
		mustNotShare(t, "Chain", p, sturm.Chain(p)...)
		mustNotShare(t, "Rationals", p, sturm.Rationals(p))
		var integers api.Poly
		for _, n := range sturm.Integers(p) {
			integers = append(integers, api.Rat{Num: n, Den: integer.Of(1)})
		}
		mustNotShare(t, "Integers", p, integers)
		mustNotShare(t, "Bound", p, api.Poly{{Num: sturm.Bound(p)}})
	}
}

// TestInvalidArgumentsDoNoHarm has arguments for which the results are unspecified: the functions must return nevertheless.
func TestInvalidArgumentsDoNoHarm(t *testing.T) {
	raw := func(n, d int64) api.Rat { return api.Rat{Num: integer.Of(n), Den: integer.Of(d)} }
	numbers := []api.Rat{
		{}, raw(0, 1), raw(1, 1), raw(-2, 3), raw(1, 0), raw(0, 0), raw(3, -1), raw(2, 4), raw(0, 5),
		{Num: api.Int{Mag: []uint32{0, 0}}, Den: api.Int{Neg: true, Mag: []uint32{1, 0}}}, {Num: integer.Of(5), Den: api.Int{Neg: true}},
		{Num: api.Int{Neg: true, Mag: []uint32{7, 0, 0}}, Den: integer.Of(1)},
	}
	var all []api.Poly
	for _, c := range numbers {
		all = append(all, api.Poly{c})
		for _, d := range numbers {
			all = append(all, api.Poly{c, d}, api.Poly{d, raw(1, 2), c}, api.Poly{raw(1, 1), c, raw(2, 1), d, d}, api.Poly{c, raw(-1, 1), raw(0, 1), d, raw(0, 1)})
		}
	}
	for i, p := range all {
		for k, lo := range numbers {
			callAll(p, lo, numbers[(i+k)%len(numbers)])
		}
	}
}
