package quotient_test

import (
	"math/rand"
	"slices"
	"testing"

	"quadrature/api"
	"quadrature/integer"
	"quadrature/quotient"
	"quadrature/rational"
)

// callAll calls all functions, and returns their results.
func callAll(q, a, b api.Poly, n int) []api.Poly {
	valid := int64(0)
	if quotient.Valid(q) {
		valid = 1
	}
	s, err := quotient.Inv(q, a)
	return []api.Poly{
		quotient.Reduce(q, a), quotient.Mul(q, a, b), s, quotient.Power(q, n), quotient.Minimal(q, a),
		{rational.Whole(valid), rational.Whole(int64(err)), quotient.Trace(q, a), quotient.Norm(q, a)},
	}
}

// guarded returns a copy of m with spare room behind it that is not the functions' to write to, either.
func guarded(m []uint32) []uint32 { return append(slices.Clone(m), 11, 12, 13)[:len(m)] }

// wrap returns a copy of p with guarded coefficients, and a further one behind them.
func wrap(p api.Poly) api.Poly {
	var out api.Poly
	for _, c := range append(slices.Clone(p), rational.Whole(7)) {
		c.Num.Mag, c.Den.Mag = guarded(c.Num.Mag), guarded(c.Den.Mag)
		out = append(out, c)
	}
	return out[:len(p)]
}

// untouched reports whether a guarded copy of p still is one.
func untouched(copied, p api.Poly) bool {
	whole := copied[:len(p)+1]
	intact := func(m []uint32) bool { return slices.Equal(m[:len(m)+3][len(m):], []uint32{11, 12, 13}) }
	for _, c := range whole {
		if !intact(c.Num.Mag) || !intact(c.Den.Mag) {
			return false
		}
	}
	return same(whole, append(slices.Clone(p), rational.Whole(7)))
}

func TestArgumentsAreNotModified(t *testing.T) {
	samples(181, 300, func(r *rand.Rand, q, a, b api.Poly) {
		x, y, z := wrap(q), wrap(a), wrap(b)
		callAll(x, y, z, 10)
		callAll(x, z, y, 3)
		callAll(x, x, x, 1)
		if !untouched(x, q) || !untouched(y, a) || !untouched(z, b) {
			t.Fatalf("%s, %s, %s were modified", text(q), text(a), text(b))
		}
	})
}

func TestResultsDependOnArgumentsOnly(t *testing.T) {
	samples(182, 300, func(r *rand.Rand, q, a, b api.Poly) {
		n := r.Intn(12)
		first := callAll(q, a, b, n)
		other, _ := modulus(r)
		callAll(other, b, a, n+1)
		again := callAll(wrap(q), wrap(a), wrap(b), n)
		if !slices.EqualFunc(first, again, func(x, y api.Poly) bool { return same(x, y) }) {
			t.Fatalf("%s, %s, %s: %v, then %v", text(q), text(a), text(b), first, again)
		}
	})
}

// mustNotShare checks that no two numbers of a result share their limbs.
func mustNotShare(t *testing.T, call string, result []api.Rat) {
	t.Helper()
	limbs := map[*uint32]bool{}
	for _, c := range result {
		for _, m := range [][]uint32{c.Num.Mag, c.Den.Mag} {
			if len(m) > 0 && limbs[&m[0]] {
				t.Fatalf("%s: two numbers share their limbs", call)
			}
			if len(m) > 0 {
				limbs[&m[0]] = true
			}
		}
	}
}

func TestPartsOfAResultShareNoMemory(t *testing.T) {
	visit := func(q, a, b api.Poly) {
		s, _ := quotient.Inv(q, a)
		mustNotShare(t, "Reduce", quotient.Reduce(q, a))
		mustNotShare(t, "Mul", quotient.Mul(q, a, b))
		mustNotShare(t, "Inv", s)
		mustNotShare(t, "Trace", []api.Rat{quotient.Trace(q, a)})
		mustNotShare(t, "Norm", []api.Rat{quotient.Norm(q, a)})
		mustNotShare(t, "Power", quotient.Power(q, 10))
		mustNotShare(t, "Minimal", quotient.Minimal(q, a))
	}
	samples(183, 300, func(r *rand.Rand, q, a, b api.Poly) { visit(wrap(q), wrap(a), wrap(b)) })
	for _, q := range small(4) {
		if quotient.Valid(q) {
			for _, a := range small(3) {
				visit(wrap(q), wrap(a), wrap(a))
			}
		}
	}
}

func TestNilAndEmptyAreTheSame(t *testing.T) {
	q := of(t, "0 -1 0 1")
	first, second := callAll(q, nil, of(t, "1 1"), 3), callAll(q, api.Poly{}, of(t, "1 1"), 3)
	if !slices.EqualFunc(first, second, func(x, y api.Poly) bool { return same(x, y) }) {
		t.Errorf("%v for nil, %v for the empty slice", first, second)
	}
	if quotient.Valid(nil) || quotient.Valid(api.Poly{}) {
		t.Error("the zero polynomial is valid")
	}
}

// TestInvalidArgumentsDoNoHarm has arguments for which the results are unspecified: the functions must return nevertheless.
func TestInvalidArgumentsDoNoHarm(t *testing.T) {
	// No moduli, but polynomials: 0, constants, and multiple roots.
	for _, q := range small(4) {
		for _, a := range small(3) {
			callAll(q, a, q, 6)
		}
	}
	// No polynomials.
	numbers := []api.Rat{
		{}, raw(0, 1), raw(1, 1), raw(-2, 3), raw(1, 0), raw(0, 0), raw(3, -1), raw(2, 4), raw(0, 5), raw(5, 1),
		{Num: api.Int{Mag: []uint32{0, 0}}, Den: api.Int{Neg: true, Mag: []uint32{1, 0}}}, {Num: integer.Of(5), Den: api.Int{Neg: true}},
	}
	r := rand.New(rand.NewSource(184))
	row := func(length int) api.Poly {
		var out api.Poly
		for range length {
			out = append(out, numbers[r.Intn(len(numbers))])
		}
		return out
	}
	for range 5000 {
		callAll(row(r.Intn(6)), row(r.Intn(7)), row(r.Intn(6)), r.Intn(12)-2)
	}
	// The numbers must not become so long that a call does not return in practice.
	for range 10 {
		callAll(row(16), row(20), row(16), 40)
	}
}
