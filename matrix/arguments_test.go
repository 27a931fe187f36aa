package matrix_test

import (
	"math/rand"
	"slices"
	"testing"

	"quadrature/api"
	"quadrature/integer"
	"quadrature/matrix"
	"quadrature/rational"
)

// callAll calls all functions, and returns their results as lists of lists.
func callAll(m [][]api.Rat, cols int, b []api.Rat) [][]api.Rat {
	form, pivots := matrix.Rref(m)
	numbers := []api.Rat{rational.Whole(int64(matrix.Rank(m)))}
	for _, col := range pivots {
		numbers = append(numbers, rational.Whole(int64(col)))
	}
	x, w, _ := matrix.Solve(m, b)
	d, err := matrix.Det(m)
	return slices.Concat(form, matrix.Null(m, cols), [][]api.Rat{numbers, x, w, {d, rational.Whole(int64(err))}})
}

// same reports whether a and b have the same numbers, in the same representation.
func same(a, b [][]api.Rat) bool {
	return slices.EqualFunc(a, b, func(x, y []api.Rat) bool {
		return slices.EqualFunc(x, y, func(c, d api.Rat) bool {
			return c.Num.Neg == d.Num.Neg && c.Den.Neg == d.Den.Neg && slices.Equal(c.Num.Mag, d.Num.Mag) && slices.Equal(c.Den.Mag, d.Den.Mag)
		})
	})
}

// guarded returns a copy of m with spare room behind it that is not the functions' to write to, either.
func guarded(m []uint32) []uint32 { return append(slices.Clone(m), 11, 12, 13)[:len(m)] }

// wrap returns a copy of l with guarded limbs, and a further number behind its end.
func wrap(l []api.Rat) []api.Rat {
	var out []api.Rat
	for _, c := range append(slices.Clone(l), rational.Whole(7)) {
		c.Num.Mag, c.Den.Mag = guarded(c.Num.Mag), guarded(c.Den.Mag)
		out = append(out, c)
	}
	return out[:len(l)]
}

// wrapAll returns a copy of m with guarded rows, and a further row behind its end.
func wrapAll(m [][]api.Rat) [][]api.Rat {
	var out [][]api.Rat
	for _, row := range append(slices.Clone(m), []api.Rat{rational.Whole(8)}) {
		out = append(out, wrap(row))
	}
	return out[:len(m)]
}

// untouched reports whether a guarded copy of m still is one.
func untouched(copied, m [][]api.Rat) bool {
	behind := append(slices.Clone(m), []api.Rat{rational.Whole(8)})
	intact := func(m []uint32) bool { return slices.Equal(m[:len(m)+3][len(m):], []uint32{11, 12, 13}) }
	for i, row := range copied[:len(m)+1] {
		whole := row[:len(row)+1]
		for _, c := range whole {
			if !intact(c.Num.Mag) || !intact(c.Den.Mag) {
				return false
			}
		}
		if !same([][]api.Rat{whole}, [][]api.Rat{append(slices.Clone(behind[i]), rational.Whole(7))}) {
			return false
		}
	}
	return true
}

func TestArgumentsAreNotModified(t *testing.T) {
	samples(141, 20, 5, func(r *rand.Rand, m [][]api.Rat, cols int) {
		b := elements(r, len(m))
		if r.Intn(2) == 0 {
			b = applied(m, elements(r, cols))
		}
		copied, copiedB := wrapAll(m), wrapAll([][]api.Rat{b})
		callAll(copied, cols, copiedB[0])
		if !untouched(copied, m) || !untouched(copiedB, [][]api.Rat{b}) {
			t.Fatalf("%s or %s was modified", textOf(m), text(b))
		}
	})
}

func TestResultsDependOnArgumentsOnly(t *testing.T) {
	samples(142, 10, 5, func(r *rand.Rand, m [][]api.Rat, cols int) {
		b, other := elements(r, len(m)), sample(r, 1+r.Intn(5), 5)
		first := callAll(m, cols, b)
		callAll(other, 5, elements(r, len(other)))
		if again := callAll(wrapAll(m), cols, wrap(b)); !same(first, again) {
			t.Fatalf("%s and %s: %s, then %s", textOf(m), text(b), textOf(first), textOf(again))
		}
	})
}

// mustNotShare checks that no two lists of numbers share memory, nor two numbers their limbs.
func mustNotShare(t *testing.T, call string, arguments, results [][]api.Rat) {
	t.Helper()
	numbers, limbs := map[*api.Rat]bool{}, map[*uint32]bool{}
	for _, l := range slices.Concat(arguments, results) {
		for i, c := range l {
			if numbers[&l[i]] {
				t.Fatalf("%s of %s: two lists share their numbers", call, textOf(arguments))
			}
			numbers[&l[i]] = true
			for _, m := range [][]uint32{c.Num.Mag, c.Den.Mag} {
				if len(m) == 0 {
					continue
				}
				if limbs[&m[0]] {
					t.Fatalf("%s of %s: two numbers share their limbs", call, textOf(arguments))
				}
				limbs[&m[0]] = true
			}
		}
	}
}

func TestPartsOfAResultShareNoMemory(t *testing.T) {
	samples(143, 20, 5, func(r *rand.Rand, m [][]api.Rat, cols int) {
		b := elements(r, len(m))
		if r.Intn(2) == 0 {
			b = applied(m, elements(r, cols))
		}
		m, b = wrapAll(m), wrap(b)
		form, _ := matrix.Rref(m)
		mustNotShare(t, "Rref", m, form)
		mustNotShare(t, "Null", m, matrix.Null(m, cols))
		x, w, _ := matrix.Solve(m, b)
		mustNotShare(t, "Solve", append(m, b), [][]api.Rat{x, w})
		d, _ := matrix.Det(m)
		mustNotShare(t, "Det", m, [][]api.Rat{{d}})
	})
}

// TestInvalidArgumentsDoNoHarm has arguments for which the results are unspecified: the functions must return nevertheless.
func TestInvalidArgumentsDoNoHarm(t *testing.T) {
	raw := func(n, d int64) api.Rat { return api.Rat{Num: integer.Of(n), Den: integer.Of(d)} }
	numbers := []api.Rat{
		{}, raw(0, 1), raw(1, 1), raw(-2, 3), raw(1, 0), raw(0, 0), raw(3, -1), raw(2, 4), raw(0, 5), raw(5, 1), raw(-1, 7),
		{Num: api.Int{Mag: []uint32{0, 0}}, Den: api.Int{Neg: true, Mag: []uint32{1, 0}}}, {Num: integer.Of(5), Den: api.Int{Neg: true}},
		{Num: api.Int{Neg: true, Mag: []uint32{7, 0, 0}}, Den: integer.Of(1)},
	}
	r := rand.New(rand.NewSource(144))
	row := func(length int) []api.Rat {
		var out []api.Rat
		for range length {
			out = append(out, numbers[r.Intn(len(numbers))])
		}
		return out
	}
	for i := range 3000 {
		var m [][]api.Rat
		cols := r.Intn(7)
		for range r.Intn(7) {
			if i%3 == 0 {
				cols = r.Intn(7) // The rows have different lengths.
			}
			m = append(m, row(cols))
		}
		callAll(m, r.Intn(9)-2, row(r.Intn(8)))
	}
	// The numbers must not become so long that a call does not return in practice.
	for range 5 {
		m := make([][]api.Rat, 24)
		for i := range m {
			m[i] = row(24)
		}
		callAll(m, 24, row(24))
	}
}
