package frac_test

import (
	"math/rand"
	"runtime/debug"
	"testing"

	"quadrature/api"
	"quadrature/frac"
	"quadrature/mpoly"
	"quadrature/rational"
)

// mustHold checks laws for the given fractions.
func mustHold(t *testing.T, laws map[string]bool, l ...api.Frac) {
	t.Helper()
	for law, ok := range laws {
		if !ok {
			t.Fatalf("%s: this does not hold for %s", law, text(l...))
		}
	}
}

// over returns a/b, for b other than 0.
func over(t *testing.T, a, b api.Frac) api.Frac {
	t.Helper()
	f, err := frac.Div(a, b)
	if err != api.OK {
		t.Fatalf("Div of %s: %v", text(a, b), err)
	}
	return f
}

// raised returns the n-th power of a.
func raised(t *testing.T, a api.Frac, n int) api.Frac {
	t.Helper()
	f, err := frac.Pow(a, n)
	if err != api.OK {
		t.Fatalf("Pow of %s by %d: %v", text(a), n, err)
	}
	return f
}

// constant returns n as a fraction.
func constant(n int64) api.Frac { return frac.Const(rational.Whole(n)) }

// fractions calls f with fractions in common variables.
func fractions(seed int64, n, most, degree int, f func(r *rand.Rand, a, b, c api.Frac)) {
	r := rand.New(rand.NewSource(seed))
	for range n {
		in := variables(r)
		f(r, some(r, most, degree, in...), some(r, most, degree, in...), some(r, most, degree, in...))
	}
}

func TestCanonicalForm(t *testing.T) {
	r := rand.New(rand.NewSource(271))
	equal := 0
	for range 4000 {
		// With few different polynomials, many quotients are equal.
		in := r.Perm(4)[:1+r.Intn(2)]
		n, d, p, q := sample(r, 2, 1, in...), sample(r, 2, 1, in...), sample(r, 2, 1, in...), sample(r, 2, 1, in...)
		if r.Intn(2) == 0 {
			p, q = mpoly.Mul(n, p), mpoly.Mul(d, p)
		}
		a, first := frac.Of(n, d)
		b, second := frac.Of(p, q)
		if first != api.OK || second != api.OK {
			continue
		}
		crosswise := mpoly.Equal(mpoly.Mul(n, q), mpoly.Mul(p, d))
		if crosswise {
			equal++
		}
		if same(a, b) != crosswise || frac.Equal(a, b) != crosswise || !canonical(a) || !canonical(b) {
			t.Fatalf("%s and %s represent %s and %s", text(a), text(b), text(api.Frac{N: n, D: d}), text(api.Frac{N: p, D: q}))
		}
		if !mpoly.Equal(mpoly.Mul(a.N, d), mpoly.Mul(n, a.D)) {
			t.Fatalf("%s represents %s", text(a), text(api.Frac{N: n, D: d}))
		}
	}
	if equal < 500 {
		t.Errorf("only %d quotients were equal", equal)
	}
}

func TestAllSmallQuotients(t *testing.T) {
	for _, s := range []string{"x + 1", "y + x", "x y + x + 1"} {
		l := small(t, s)
		for _, n := range l {
			for _, d := range l[1:] {
				a, _ := frac.Of(n, d)
				for _, p := range l {
					b, _ := frac.Of(p, l[2])
					if same(a, b) != mpoly.Equal(mpoly.Mul(n, l[2]), mpoly.Mul(p, d)) {
						t.Fatalf("%s and %s represent %s and %s", text(a), text(b), text(api.Frac{N: n, D: d}), text(api.Frac{N: p, D: l[2]}))
					}
				}
			}
		}
	}
}

func TestField(t *testing.T) {
	add, sub, mul, zero, one := frac.Add, frac.Sub, frac.Mul, constant(0), constant(1)
	fractions(272, 800, 3, 2, func(r *rand.Rand, a, b, c api.Frac) {
		ab := mul(a, b)
		laws := map[string]bool{
			"a + b = b + a":             same(add(a, b), add(b, a)),
			"(a + b) + c = a + (b + c)": same(add(add(a, b), c), add(a, add(b, c))),
			"a + 0 = a":                 same(add(a, zero), a) && same(add(zero, a), a),
			"a + (-a) = 0":              same(add(a, frac.Neg(a)), zero) && same(sub(a, a), zero),
			"a - b = a + (-b)":          same(sub(a, b), add(a, frac.Neg(b))),
			"(a + b) - b = a":           same(sub(add(a, b), b), a),
			"-(-a) = a":                 same(frac.Neg(frac.Neg(a)), a),
			"a b = b a":                 same(ab, mul(b, a)),
			"(a b) c = a (b c)":         same(mul(ab, c), mul(a, mul(b, c))),
			"a 1 = a":                   same(mul(a, one), a) && same(mul(one, a), a),
			"a 0 = 0":                   same(mul(a, zero), zero) && same(mul(zero, a), zero),
			"a (b + c) = a b + a c":     same(mul(a, add(b, c)), add(ab, mul(a, c))),
			"no divisors of zero":       frac.Zero(ab) == (frac.Zero(a) || frac.Zero(b)),
			"results are valid":         frac.Valid(ab) && frac.Valid(add(a, b)) && frac.Valid(sub(a, b)) && frac.Valid(frac.Neg(a)),
			"a^0 = 1":                   same(raised(t, a, 0), one),
			"a^1 = a":                   same(raised(t, a, 1), a),
			"a^3 = a a a":               same(raised(t, a, 3), mul(a, mul(a, a))),
			"0/a = 0":                   frac.Zero(a) || same(over(t, zero, a), zero),
		}
		if !frac.Zero(b) {
			i, k := r.Intn(7)-3, r.Intn(7)-3
			laws["(a/b) b = a"] = same(mul(over(t, a, b), b), a)
			laws["(a b)/b = a"] = same(over(t, ab, b), a)
			laws["b/b = 1"] = same(over(t, b, b), one)
			laws["b (1/b) = 1"] = same(mul(b, over(t, one, b)), one)
			laws["1/(1/b) = b"] = same(over(t, one, over(t, one, b)), b)
			laws["a/b + c/b = (a + c)/b"] = same(add(over(t, a, b), over(t, c, b)), over(t, add(a, c), b))
			laws["b^i b^k = b^(i + k)"] = same(mul(raised(t, b, i), raised(t, b, k)), raised(t, b, i+k))
			laws["b^(-i) = 1/b^i"] = same(raised(t, b, -i), over(t, one, raised(t, b, i)))
		}
		mustHold(t, laws, a, b, c)
	})
}

func TestFractionsAreQuotientsOfPolynomials(t *testing.T) {
	fractions(273, 500, 4, 3, func(r *rand.Rand, a, b, c api.Frac) {
		mustHold(t, map[string]bool{
			"a = N/D":                          same(over(t, frac.Poly(a.N), frac.Poly(a.D)), a),
			"of a product of polynomials":      same(frac.Poly(mpoly.Mul(a.N, b.N)), frac.Mul(frac.Poly(a.N), frac.Poly(b.N))),
			"of a sum of polynomials":          same(frac.Poly(mpoly.Add(a.N, b.N)), frac.Add(frac.Poly(a.N), frac.Poly(b.N))),
			"the highest variable is in N, D":  frac.Top(a) == max(frac.Top(frac.Poly(a.N)), frac.Top(frac.Poly(a.D))),
			"and is the same in the reverse":   frac.Zero(a) || frac.Top(over(t, constant(1), a)) == frac.Top(a),
			"no higher one is in a sum":        frac.Top(frac.Add(a, b)) <= max(frac.Top(a), frac.Top(b)),
			"no higher one is in a product":    frac.Top(frac.Mul(a, b)) <= max(frac.Top(a), frac.Top(b)),
			"no higher one is in a derivative": frac.Top(frac.Partial(a, r.Intn(4))) <= frac.Top(a),
		}, a, b, c)
	})
}

func TestDerivations(t *testing.T) {
	add, mul := frac.Add, frac.Mul
	fractions(274, 500, 3, 2, func(r *rand.Rand, a, b, c api.Frac) {
		v, w, n := r.Intn(4), r.Intn(4), int64(r.Intn(9)-4)
		d := func(f api.Frac) api.Frac { return frac.Partial(f, v) }
		k, m := frac.Const(coefficient(r)), frac.Const(coefficient(r))
		laws := map[string]bool{
			"it is linear":               same(d(add(mul(k, a), mul(m, b))), add(mul(k, d(a)), mul(m, d(b)))),
			"the rule for products":      same(d(mul(a, b)), add(mul(d(a), b), mul(a, d(b)))),
			"they commute":               same(frac.Partial(d(a), w), d(frac.Partial(a, w))),
			"of numbers":                 same(d(k), constant(0)),
			"of variables":               same(d(frac.Var(w)), constant(map[bool]int64{true: 1}[v == w])),
			"of polynomials":             same(d(frac.Poly(a.N)), frac.Poly(mpoly.Partial(a.N, v))),
			"0 exactly for what lacks v": frac.Zero(d(a)) == (mpoly.Deg(a.N, v) < 1 && mpoly.Deg(a.D, v) < 1),
			"results are valid":          frac.Valid(d(a)) && canonical(d(d(a))),
		}
		if !frac.Zero(b) {
			laws["the rule for quotients"] = same(d(over(t, a, b)), over(t, frac.Sub(mul(d(a), b), mul(a, d(b))), mul(b, b)))
			laws["the rule for powers"] = same(d(raised(t, b, int(n))), mul(constant(n), mul(raised(t, b, int(n)-1), d(b))))
		}
		mustHold(t, laws, a, b)
	})
}

// substituted returns a with b for v, and whether no denominator becomes zero.
func substituted(t *testing.T, a api.Frac, v int, b api.Frac) (api.Frac, bool) {
	t.Helper()
	f, err := frac.Subst(a, v, b)
	if err == api.OK {
		return f, true
	}
	mustFail(t, "Subst", f, err, api.ErrZero)
	return f, false
}

func TestSubstitution(t *testing.T) {
	defined := 0
	fractions(275, 700, 2, 2, func(r *rand.Rand, a, b, c api.Frac) {
		v := r.Intn(4)
		p, first := substituted(t, a, v, c)
		q, second := substituted(t, b, v, c)
		if !first || !second {
			return
		}
		defined++
		is := func(f, want api.Frac) bool {
			g, ok := substituted(t, f, v, c)
			return ok && same(g, want)
		}
		k := frac.Const(coefficient(r))
		laws := map[string]bool{
			"of a sum":              is(frac.Add(a, b), frac.Add(p, q)),
			"of a difference":       is(frac.Sub(a, b), frac.Sub(p, q)),
			"of a product":          is(frac.Mul(a, b), frac.Mul(p, q)),
			"of a square":           is(frac.Mul(a, a), frac.Mul(p, p)),
			"of numbers":            is(k, k),
			"of the variable":       is(frac.Var(v), c),
			"of other variables":    is(frac.Var((v+1)%4), frac.Var((v+1)%4)),
			"results are valid":     frac.Valid(p) && frac.Valid(q),
			"the variable is gone":  mpoly.Deg(c.N, v) > 0 || mpoly.Deg(c.D, v) > 0 || mpoly.Deg(p.N, v) < 1 && mpoly.Deg(p.D, v) < 1,
			"the variable itself":   isSame(frac.Subst(a, v, frac.Var(v)))(a),
			"a number is like Eval": evaluates(a, v, coefficient(r)),
		}
		if !frac.Zero(b) {
			// The quotient is defined where the divisor does not become zero.
			f, ok := substituted(t, over(t, a, b), v, c)
			laws["of a quotient"] = frac.Zero(q) || ok && same(f, over(t, p, q))
		}
		mustHold(t, laws, a, b, c)
	})
	if defined < 500 {
		t.Errorf("only %d substitutions were defined", defined)
	}
}

// isSame returns a function that reports whether a result without an error is the given one.
func isSame(f api.Frac, err api.Errno) func(api.Frac) bool {
	return func(want api.Frac) bool { return err == api.OK && same(f, want) }
}

// evaluates reports whether Eval is Subst with a number.
func evaluates(a api.Frac, v int, c api.Rat) bool {
	f, first := frac.Eval(a, v, c)
	g, second := frac.Subst(a, v, frac.Const(c))
	return first == second && same(f, g)
}

func TestSubstitutionTwice(t *testing.T) {
	defined := 0
	fractions(276, 500, 2, 1, func(r *rand.Rand, a, b, c api.Frac) {
		v, w := r.Intn(4), r.Intn(4)
		p, first := substituted(t, a, v, b)
		q, second := substituted(t, b, v, c)
		if !first || !second {
			return
		}
		f, third := substituted(t, p, v, c)
		g, fourth := substituted(t, a, v, q)
		laws := map[string]bool{"one after the other": !third || !fourth || same(f, g)}
		if third && fourth {
			defined++
		}
		// The chain rule: b stands for v.
		if outer, ok := substituted(t, frac.Partial(a, v), v, b); ok && v != w {
			inner, ok := substituted(t, frac.Partial(a, w), v, b)
			laws["the chain rule"] = ok && same(frac.Partial(p, w), frac.Add(inner, frac.Mul(outer, frac.Partial(b, w))))
		}
		mustHold(t, laws, a, b, c)
	})
	if defined < 300 {
		t.Errorf("only %d substitutions were defined", defined)
	}
}

func TestSubstitutionBackAndForth(t *testing.T) {
	fractions(277, 500, 3, 2, func(r *rand.Rand, a, b, _ api.Frac) {
		v := r.Intn(4)
		c := frac.Const(coefficient(r))
		laws := map[string]bool{}
		// Each of these is undone by another one, so no denominator becomes zero.
		for name, x := range map[string][2]api.Frac{
			"v + c":     {frac.Add(frac.Var(v), c), frac.Sub(frac.Var(v), c)},
			"c v":       {frac.Mul(frac.Var(v), c), over(t, frac.Var(v), c)},
			"c/v":       {over(t, c, frac.Var(v)), over(t, c, frac.Var(v))},
			"v/(v + 1)": {of(t, names[v:v+1]+" // "+names[v:v+1]+"+ 1"), of(t, "-"+names[v:v+1]+" // "+names[v:v+1]+"- 1")},
		} {
			f, there := substituted(t, a, v, x[0])
			g, back := substituted(t, f, v, x[1])
			laws[name] = there && back && same(g, a) && canonical(f)
		}
		mustHold(t, laws, a, b)
	})
}

// TestManyPowers has so many powers of the variable that a recursion from one to the next would be deep.
func TestManyPowers(t *testing.T) {
	defer debug.SetMaxStack(debug.SetMaxStack(1 << 22))
	const n = 30000
	terms := make([]api.Mono, n)
	for i := range terms {
		terms[i] = api.Mono{E: [4]int{i, i}, C: rational.Whole(1)}
	}
	f, err := frac.Subst(frac.Poly(mpoly.Make(terms)), 0, of(t, "1 // y"))
	mustReturn(t, "the sum of the powers of x y, with 1/y for x", f, err, constant(n))
}
