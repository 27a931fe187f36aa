package mpoly_test

import (
	"math/rand"
	"slices"
	"testing"

	"quadrature/api"
	"quadrature/mpoly"
	"quadrature/rational"
)

// same reports whether a and b have the same terms, in the same representation.
func same(a, b api.MPoly) bool {
	return slices.EqualFunc(a, b, func(x, y api.Mono) bool {
		num, den := slices.Equal(x.C.Num.Mag, y.C.Num.Mag), slices.Equal(x.C.Den.Mag, y.C.Den.Mag)
		return x.E == y.E && num && den && x.C.Num.Neg == y.C.Num.Neg && x.C.Den.Neg == y.C.Den.Neg
	})
}

// mustHold checks laws for polynomials.
func mustHold(t *testing.T, laws map[string]bool, polynomials ...api.MPoly) {
	t.Helper()
	for law, ok := range laws {
		if !ok {
			t.Errorf("%s: for %s", law, texts(polynomials))
		}
	}
	if t.Failed() {
		t.FailNow()
	}
}

// powers returns a product of powers, to which the factors contribute one after the other.
func powers(factors []api.MPoly, exponents ...int) api.MPoly {
	p := mpoly.Const(rational.Whole(1))
	for i, n := range exponents {
		p = mpoly.Mul(p, mpoly.Pow(factors[i], n))
	}
	return p
}

func TestRing(t *testing.T) {
	r := rand.New(rand.NewSource(201))
	add, sub, mul := mpoly.Add, mpoly.Sub, mpoly.Mul
	zero, one := api.MPoly(nil), of(t, "1")
	for range 1000 {
		a, b, c := sample(r, 6), sample(r, 6), sample(r, 6)
		ab := mul(a, b)
		degrees := true
		for v := range 4 {
			degrees = degrees && (len(a) == 0 || len(b) == 0 || mpoly.Deg(ab, v) == mpoly.Deg(a, v)+mpoly.Deg(b, v))
		}
		k, n := r.Intn(4), r.Intn(4)
		mustHold(t, map[string]bool{
			"a + b = b + a":             same(add(a, b), add(b, a)),
			"(a + b) + c = a + (b + c)": same(add(add(a, b), c), add(a, add(b, c))),
			"a + 0 = a":                 same(add(a, zero), a) && same(add(zero, a), a),
			"a - a = 0":                 same(sub(a, a), zero),
			"a - b = a + (-1) b":        same(sub(a, b), add(a, mul(of(t, "-1"), b))),
			"a b = b a":                 same(ab, mul(b, a)),
			"(a b) c = a (b c)":         same(mul(ab, c), mul(a, mul(b, c))),
			"a 1 = a":                   same(mul(a, one), a) && same(mul(one, a), a),
			"a 0 = 0":                   same(mul(a, zero), zero) && same(mul(zero, a), zero),
			"a (b + c) = a b + a c":     same(mul(a, add(b, c)), add(ab, mul(a, c))),
			"no zero divisors":          (len(ab) == 0) == (len(a) == 0 || len(b) == 0),
			"degrees add up":            degrees,
			"a^k a^n = a^(k + n)":       same(mul(mpoly.Pow(a, k), mpoly.Pow(a, n)), mpoly.Pow(a, k+n)),
			"(a b)^k = a^k b^k":         same(mpoly.Pow(ab, k), mul(mpoly.Pow(a, k), mpoly.Pow(b, k))),
			"Equal is identity":         mpoly.Equal(a, b) == same(a, b) && mpoly.Equal(a, a),
			"results are valid":         isValid(ab) && isValid(add(a, b)) && isValid(sub(a, b)) && mpoly.Valid(ab),
		}, a, b, c)
		x := coefficient(r)
		mustHold(t, map[string]bool{
			"Scale is a product":            same(mpoly.Scale(a, x), mul(a, mpoly.Const(x))) && len(mpoly.Scale(a, rational.Whole(0))) == 0,
			"the first term is the product": len(ab) == 0 || same(ab[:1], mul(a[:1], b[:1])),
			"Make makes a sum":              same(mpoly.Make(slices.Concat(c, b, a)), add(a, add(b, c))),
		}, a, b, c)
	}
}

func TestPolynomialsAreSumsOfProductsOfVariables(t *testing.T) {
	r := rand.New(rand.NewSource(202))
	variables := []api.MPoly{mpoly.Var(0), mpoly.Var(1), mpoly.Var(2), mpoly.Var(3)}
	for range 500 {
		a := sample(r, 8)
		var sum api.MPoly
		for _, x := range a {
			sum = mpoly.Add(sum, mpoly.Mul(mpoly.Const(x.C), powers(variables, x.E[:]...)))
		}
		mustHold(t, map[string]bool{"the sum of the terms": same(sum, a)}, a)
	}
}

func TestCoefficients(t *testing.T) {
	r := rand.New(rand.NewSource(203))
	for range 1000 {
		a, v := sample(r, 10), r.Intn(4)
		l := mpoly.Coeffs(a, v)
		pure := true
		for _, p := range l {
			pure = pure && isValid(p) && mpoly.Deg(p, v) < 1
		}
		mustHold(t, map[string]bool{
			"From inverts Coeffs":                  same(mpoly.From(l, v), a),
			"as many as the degree tells":          len(l) == mpoly.Deg(a, v)+1,
			"the last one is not 0":                len(l) == 0 || len(l[len(l)-1]) > 0,
			"no coefficient has the variable":      pure,
			"Coeffs inverts From":                  slices.EqualFunc(mpoly.Coeffs(mpoly.From(l, v), v), l, same),
			"zeros at the end do not count":        same(mpoly.From(append(slices.Clone(l), nil, nil), v), a),
			"From is the value at the variable":    same(mpoly.From(l, v), horner(l, mpoly.Var(v))),
			"the degree of 0 is -1, and no others": (mpoly.Deg(a, v) == -1) == (len(a) == 0),
		}, a)
	}
}

// horner returns the sum of l[i] b^i.
func horner(l []api.MPoly, b api.MPoly) api.MPoly {
	var out api.MPoly
	for _, p := range slices.Backward(l) {
		out = mpoly.Add(mpoly.Mul(out, b), p)
	}
	return out
}

func TestDerivations(t *testing.T) {
	r := rand.New(rand.NewSource(204))
	add, mul, partial := mpoly.Add, mpoly.Mul, mpoly.Partial
	for range 1000 {
		a, b, v, w, n := sample(r, 6), sample(r, 6), r.Intn(4), r.Intn(4), r.Intn(4)+1
		c, d := coefficient(r), coefficient(r)
		mustHold(t, map[string]bool{
			"linearity":            same(partial(add(mpoly.Scale(a, c), mpoly.Scale(b, d)), v), add(mpoly.Scale(partial(a, v), c), mpoly.Scale(partial(b, v), d))),
			"the product rule":     same(partial(mul(a, b), v), add(mul(partial(a, v), b), mul(a, partial(b, v)))),
			"the rule for powers":  same(partial(mpoly.Pow(a, n), v), mul(mpoly.Scale(mpoly.Pow(a, n-1), rational.Whole(int64(n))), partial(a, v))),
			"they commute":         same(partial(partial(a, v), w), partial(partial(a, w), v)),
			"constants":            (len(partial(a, v)) == 0) == (mpoly.Deg(a, v) < 1),
			"of variables":         same(partial(mpoly.Var(w), v), mpoly.Const(rational.Whole(map[bool]int64{true: 1}[v == w]))),
			"results are valid":    isValid(partial(a, v)) && isValid(partial(partial(a, v), w)),
			"the degree decreases": mpoly.Deg(a, v) < 1 || mpoly.Deg(partial(a, v), v) == mpoly.Deg(a, v)-1,
		}, a, b)
	}
}

func TestSubstitution(t *testing.T) {
	r := rand.New(rand.NewSource(205))
	add, mul, subst, eval := mpoly.Add, mpoly.Mul, mpoly.Subst, mpoly.Eval
	for range 600 {
		a, b, p, q, v := sample(r, 5), sample(r, 5), sample(r, 3), sample(r, 2), r.Intn(4)
		c, d := coefficient(r), coefficient(r)
		zero := rational.Whole(0)
		mustHold(t, map[string]bool{
			"Subst of a sum":                same(subst(add(a, b), v, p), add(subst(a, v, p), subst(b, v, p))),
			"Subst of a product":            same(subst(mul(a, b), v, p), mul(subst(a, v, p), subst(b, v, p))),
			"Subst of a number":             same(subst(mpoly.Const(c), v, p), mpoly.Const(c)),
			"Subst of variables":            same(subst(mpoly.Var(v), v, p), p) && same(subst(mpoly.Var((v+1)%4), v, p), mpoly.Var((v+1)%4)),
			"Subst of the variable itself":  same(subst(a, v, mpoly.Var(v)), a),
			"Subst and back":                same(subst(subst(a, v, add(mpoly.Var(v), mpoly.Const(c))), v, mpoly.Sub(mpoly.Var(v), mpoly.Const(c))), a),
			"Subst in Subst":                same(subst(subst(a, v, p), v, q), subst(a, v, subst(p, v, q))),
			"Subst is the value at p":       same(subst(a, v, p), horner(mpoly.Coeffs(a, v), p)),
			"Eval of a sum":                 same(eval(add(a, b), v, c), add(eval(a, v, c), eval(b, v, c))),
			"Eval of a product":             same(eval(mul(a, b), v, c), mul(eval(a, v, c), eval(b, v, c))),
			"Eval is Subst with a constant": same(eval(a, v, c), subst(a, v, mpoly.Const(c))) && same(eval(a, v, zero), subst(a, v, nil)),
			"Eval at 0":                     same(eval(a, v, zero), horner(mpoly.Coeffs(a, v)[:min(1, len(a))], nil)),
			"the variable is gone":          mpoly.Deg(eval(a, v, c), v) < 1,
			"numbers for two variables":     same(eval(eval(a, v, c), (v+1)%4, d), eval(eval(a, (v+1)%4, d), v, c)),
			"results are valid":             isValid(subst(a, v, p)) && isValid(eval(a, v, c)) && isValid(eval(a, v, zero)),
		}, a, b, p, q)
	}
}

func TestTaylorsTheorem(t *testing.T) {
	r := rand.New(rand.NewSource(206))
	for range 300 {
		a, p, v := sample(r, 6), sample(r, 3), r.Intn(4)
		var sum api.MPoly
		d, scale := a, rational.Whole(1)
		for n := range mpoly.Deg(a, v) + 1 {
			sum = mpoly.Add(sum, mpoly.Mul(mpoly.Scale(d, scale), mpoly.Pow(p, n)))
			d = mpoly.Partial(d, v)
			scale, _ = rational.Div(scale, rational.Whole(int64(n+1)))
		}
		mustHold(t, map[string]bool{"Taylor's theorem": same(mpoly.Subst(a, v, mpoly.Add(mpoly.Var(v), p)), sum)}, a, p)
	}
}

func TestDivisionInvertsMultiplication(t *testing.T) {
	r := rand.New(rand.NewSource(207))
	divides := func(a, b, want api.MPoly) bool {
		q, ok := mpoly.Div(a, b)
		return ok && isValid(q) && same(q, want)
	}
	fails := func(a, b api.MPoly) bool {
		q, ok := mpoly.Div(a, b)
		return !ok && len(q) == 0
	}
	for range 1000 {
		a, b, c, x := sample(r, 6), sample(r, 6), sample(r, 3), coefficient(r)
		ab := mpoly.Mul(a, b)
		mustHold(t, map[string]bool{
			"(a b)/b = a":        len(b) == 0 || divides(ab, b, a),
			"(a b)/a = b":        len(a) == 0 || divides(ab, a, b),
			"(a b c)/(a c) = b":  len(a) == 0 || len(c) == 0 || divides(mpoly.Mul(ab, c), mpoly.Mul(a, c), b),
			"by a number":        divides(mpoly.Scale(a, x), mpoly.Const(x), a),
			"by 0":               fails(a, nil),
			"of 0":               len(b) == 0 || divides(nil, b, nil),
			"by a multiple":      len(b) == 0 || fails(b, mpoly.Mul(b, mpoly.Add(mpoly.Mul(c, c), of(t, "x + 1")))),
			"with a remainder":   len(b) == 0 || len(b) == 1 && b[0].E == [4]int{} || fails(mpoly.Add(ab, of(t, "1")), b),
			"a quotient is one":  isQuotient(a, b) && isQuotient(ab, mpoly.Add(b, c)),
			"no quotient by one": len(b) < 2 || fails(mpoly.Mul(b, of(t, "x")), mpoly.Mul(b, of(t, "x + 1"))),
		}, a, b, c)
	}
}

// isQuotient reports whether Div tells the truth where it returns a quotient.
func isQuotient(a, b api.MPoly) bool {
	q, ok := mpoly.Div(a, b)
	return !ok && len(q) == 0 || ok && isValid(q) && same(mpoly.Mul(q, b), a)
}

func TestPseudoRemainder(t *testing.T) {
	r := rand.New(rand.NewSource(208))
	for range 1000 {
		a, b, p, v := sample(r, 6), sample(r, 4), sample(r, 3), r.Intn(4)
		if len(b) == 0 {
			continue
		}
		rest, err := mpoly.Pseudo(a, b, v)
		m, n := mpoly.Deg(a, v), mpoly.Deg(b, v)
		laws := map[string]bool{"no error": err == api.OK, "the result is valid": isValid(rest), "the degree": len(rest) == 0 || mpoly.Deg(rest, v) < n}
		if m < n {
			laws["a itself"] = same(rest, a)
		} else {
			c := mpoly.Pow(mpoly.Coeffs(b, v)[n], m-n+1)
			_, ok := mpoly.Div(mpoly.Sub(mpoly.Mul(c, a), rest), b)
			laws["c^(m - n + 1) a - r is a multiple of b"] = ok
		}
		multiple, err := mpoly.Pseudo(mpoly.Mul(p, b), b, v)
		laws["of a multiple"] = err == api.OK && len(multiple) == 0
		mustHold(t, laws, a, b, p)
	}
}
