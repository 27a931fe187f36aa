package mpoly_test

import (
	"math"
	"math/rand"
	"slices"
	"testing"

	"quadrature/api"
	"quadrature/integer"
	"quadrature/mpoly"
	"quadrature/rational"
)

// callAll calls all functions, and returns their results.
func callAll(a, b api.MPoly, v int, c api.Rat) []api.MPoly {
	flags := int64(mpoly.Deg(a, v))
	for _, ok := range []bool{mpoly.Valid(a), mpoly.Equal(a, b)} {
		flags *= 2
		if ok {
			flags++
		}
	}
	q, _ := mpoly.Div(a, b)
	exact, _ := mpoly.Div(mpoly.Mul(a, b), b)
	rest, err := mpoly.Pseudo(a, b, v)
	l := mpoly.Coeffs(a, v)
	out := []api.MPoly{
		mpoly.Make(a), mpoly.Make(slices.Concat(b, a)), mpoly.Const(c), mpoly.Var(v), mpoly.Add(a, b), mpoly.Sub(a, b), mpoly.Mul(a, b), mpoly.Scale(a, c), mpoly.Pow(a, 3),
		mpoly.From(l, v), mpoly.From([]api.MPoly{a, b}, v), mpoly.Partial(a, v), mpoly.Eval(a, v, c), mpoly.Subst(a, v, b), q, exact, rest, mpoly.Const(rational.Whole(flags)), mpoly.Const(rational.Whole(int64(err))),
	}
	return append(out, l...)
}

// guarded returns a copy of m with spare room behind it that is not the functions' to write to, either.
func guarded(m []uint32) []uint32 { return append(slices.Clone(m), 11, 12, 13)[:len(m)] }

// wrap returns a copy of c with guarded limbs.
func wrap(c api.Rat) api.Rat {
	c.Num.Mag, c.Den.Mag = guarded(c.Num.Mag), guarded(c.Den.Mag)
	return c
}

// wrapAll returns a copy of p with guarded coefficients, and a further term behind them.
func wrapAll(p api.MPoly) api.MPoly {
	var out api.MPoly
	for _, x := range append(slices.Clone(p), api.Mono{C: rational.Whole(7)}) {
		out = append(out, api.Mono{E: x.E, C: wrap(x.C)})
	}
	return out[:len(p)]
}

// untouched reports whether a guarded copy of p still is one.
func untouched(copied, p api.MPoly) bool {
	whole := copied[:len(p)+1]
	intact := func(m []uint32) bool { return slices.Equal(m[:len(m)+3][len(m):], []uint32{11, 12, 13}) }
	for _, x := range whole {
		if !intact(x.C.Num.Mag) || !intact(x.C.Den.Mag) {
			return false
		}
	}
	return same(whole, append(slices.Clone(p), api.Mono{C: rational.Whole(7)}))
}

func TestArgumentsAreNotModified(t *testing.T) {
	r := rand.New(rand.NewSource(211))
	for range 500 {
		a, b, c, v := sample(r, 6), sample(r, 4), api.MPoly{{C: coefficient(r)}}, r.Intn(4)
		x, y, z := wrapAll(a), wrapAll(b), wrapAll(c)
		for _, other := range []api.MPoly{x, y, nil, z} {
			callAll(x, other, v, z[0].C)
			callAll(other, x, v, z[0].C)
		}
		if !untouched(x, a) || !untouched(y, b) || !untouched(z, c) {
			t.Fatalf("%s were modified", texts([]api.MPoly{a, b, c}))
		}
	}
}

func TestListsAreNotModified(t *testing.T) {
	r := rand.New(rand.NewSource(212))
	for range 500 {
		l := append(random(r, 6), random(r, 6)...)
		x := wrapAll(l)
		mpoly.Make(x)
		parts := []api.MPoly{sample(r, 4), nil, sample(r, 4)}
		y := []api.MPoly{wrapAll(parts[0]), nil, wrapAll(parts[2])}
		mpoly.From(y, r.Intn(4))
		if !untouched(x, l) || !untouched(y[0], parts[0]) || y[1] != nil || !untouched(y[2], parts[2]) {
			t.Fatalf("%s or %s was modified", text(l), texts(parts))
		}
	}
}

func TestResultsDependOnArgumentsOnly(t *testing.T) {
	r := rand.New(rand.NewSource(213))
	for range 300 {
		a, b, c, v := sample(r, 12), sample(r, 12), coefficient(r), r.Intn(4)
		first := callAll(a, b, v, c)
		for range 3 {
			callAll(b, a, v, c)
			if again := callAll(wrapAll(a), wrapAll(b), v, wrap(c)); !slices.EqualFunc(first, again, same) {
				t.Fatalf("%s: %s, then %s", texts([]api.MPoly{a, b}), texts(first), texts(again))
			}
		}
	}
}

// mustNotShare checks that no two slices of one result share memory.
func mustNotShare(t *testing.T, call string, results ...api.MPoly) {
	t.Helper()
	terms, limbs := map[*api.Mono]bool{}, map[*uint32]bool{}
	for _, p := range results {
		for i, x := range p {
			if terms[&p[i]] {
				t.Fatalf("%s: two polynomials share their terms", call)
			}
			terms[&p[i]] = true
			for _, m := range [][]uint32{x.C.Num.Mag, x.C.Den.Mag} {
				if len(m) > 0 && limbs[&m[0]] {
					t.Fatalf("%s: two coefficients share their limbs", call)
				}
				if len(m) > 0 {
					limbs[&m[0]] = true
				}
			}
		}
	}
}

func TestPartsOfAResultShareNoMemory(t *testing.T) {
	r := rand.New(rand.NewSource(214))
	one := rational.Whole(1)
	for range 500 {
		a, b, c, v := wrapAll(sample(r, 6)), wrapAll(sample(r, 4)), wrap(coefficient(r)), r.Intn(4)
		q, _ := mpoly.Div(mpoly.Mul(a, b), b)
		byTerm, _ := mpoly.Div(a, mpoly.Const(c))
		rest, _ := mpoly.Pseudo(a, b, v)
		mustNotShare(t, "Coeffs", mpoly.Coeffs(a, v)...)
		for i, p := range []api.MPoly{
			mpoly.Make(a), mpoly.Const(c), mpoly.Var(v), mpoly.Add(a, b), mpoly.Sub(a, b), mpoly.Mul(a, b), mpoly.Mul(a, mpoly.Const(c)), mpoly.Scale(a, c), mpoly.Scale(a, one), mpoly.Scale(mpoly.Make(a), rational.Neg(one)),
			mpoly.Pow(a, 0), mpoly.Pow(a, 1), mpoly.Pow(a, 2), mpoly.From([]api.MPoly{a, b}, v), mpoly.Partial(a, v), mpoly.Eval(a, v, c), mpoly.Subst(a, v, b), q, byTerm, rest,
		} {
			mustNotShare(t, "function "+string(rune('a'+i)), p)
		}
	}
}

func TestNilAndEmptyAreTheSame(t *testing.T) {
	a, c := of(t, "y^2 + x y + 1"), number(t, "2/3")
	empty := api.MPoly{}
	for v := range 4 {
		for _, x := range [][2][2]api.MPoly{{{nil, a}, {empty, a}}, {{a, nil}, {a, empty}}, {{nil, nil}, {empty, empty}}} {
			first, second := callAll(x[0][0], x[0][1], v, c), callAll(x[1][0], x[1][1], v, c)
			if !slices.EqualFunc(first, second, same) {
				t.Errorf("%s for nil, %s for the empty list", texts(first), texts(second))
			}
		}
	}
	if len(mpoly.From([]api.MPoly{}, 0)) != 0 || len(mpoly.From([]api.MPoly{nil, {}}, 0)) != 0 || len(mpoly.Make(nil)) != 0 {
		t.Error("From or Make of nothing is not 0")
	}
}

// TestInvalidArgumentsDoNoHarm has arguments for which the results are unspecified: the functions must return nevertheless.
func TestInvalidArgumentsDoNoHarm(t *testing.T) {
	numbers := []api.Rat{
		{}, raw(0, 1), raw(1, 1), raw(-2, 3), raw(1, 0), raw(0, 0), raw(3, -1), raw(2, 4), raw(0, 5), raw(5, 1),
		{Num: api.Int{Mag: []uint32{0, 0}}, Den: api.Int{Neg: true, Mag: []uint32{1, 0}}}, {Num: integer.Of(5), Den: api.Int{Neg: true}},
	}
	large := []int{0, 0, 1, 2, 3, -1, -2, math.MaxInt, math.MinInt, math.MaxInt32 + 1}
	r := rand.New(rand.NewSource(215))
	row := func(length, exponents int) api.MPoly {
		var out api.MPoly
		for range length {
			x := api.Mono{C: numbers[r.Intn(len(numbers))]}
			for v := range 4 {
				x.E[v] = large[r.Intn(exponents)]
			}
			out = append(out, x)
		}
		return out
	}
	for range 20000 {
		callAll(row(r.Intn(5), 7), row(r.Intn(5), 7), r.Intn(7)-1, numbers[r.Intn(len(numbers))])
	}
	// With large exponents, divisions of valid polynomials would take as many steps.
	for range 20000 {
		a, b, v, c := row(r.Intn(5), 10), row(r.Intn(5), 10), r.Intn(7)-1, numbers[r.Intn(len(numbers))]
		mpoly.Valid(a)
		mpoly.Equal(a, b)
		mpoly.Add(a, b)
		mpoly.Sub(a, b)
		mpoly.Mul(a, b)
		mpoly.Scale(a, c)
		mpoly.Pow(a, r.Intn(4)-1)
		mpoly.Deg(a, v)
		mpoly.Coeffs(a, v)
		mpoly.From([]api.MPoly{a, b}, v)
		mpoly.Partial(a, v)
		mpoly.Div(b, b)
		mpoly.Div(a, row(1, 10))
		mpoly.Div(row(1, 10), b)
	}
	// Equal exponents, and terms in the wrong order, which cancel what is not the first term.
	for _, a := range []string{"x", "x + 1", "y + x", "x^2 + 2 x + 1", "y^3 + x^3"} {
		for _, b := range []string{"x - x", "x + x", "1 + x", "x + y", "x - x + 1", "1 + x^-1", "x + 0 x", "0 x + x", "x^-1 + x^2", "x^-1 - x^-1", "0 1", "0 x"} {
			callAll(terms(t, a), terms(t, b), 0, rational.Whole(1))
			callAll(terms(t, b), terms(t, a), 1, rational.Whole(1))
			callAll(terms(t, b), terms(t, b), 0, rational.Whole(1))
		}
	}
	for _, v := range []int{-1, 4, math.MinInt, math.MaxInt} {
		callAll(of(t, "y + x"), of(t, "x"), v, rational.Whole(2))
		if len(mpoly.Var(v)) != 0 {
			t.Errorf("Var(%d) is not 0", v)
		}
	}
}
