package mgcd_test

import (
	"math/rand"
	"slices"
	"testing"

	"quadrature/api"
	"quadrature/mgcd"
	"quadrature/mpoly"
	"quadrature/rational"
)

// mustHold checks laws about the given polynomials.
func mustHold(t *testing.T, laws map[string]bool, l ...api.MPoly) {
	t.Helper()
	for law, ok := range laws {
		if !ok {
			t.Fatalf("%s does not hold for %s", law, texts(l...))
		}
	}
}

// some returns a polynomial in up to four variables.
func some(r *rand.Rand, most, degree int) api.MPoly {
	return sample(r, most, degree, r.Perm(4)[:r.Intn(5)]...)
}

// product returns the product of the polynomials in l.
func product(l ...api.MPoly) api.MPoly {
	out := mpoly.Const(rational.Whole(1))
	for _, p := range l {
		out = mpoly.Mul(out, p)
	}
	return out
}

// divide returns a/b and whether b divides a. 0 divides 0.
func divide(a, b api.MPoly) (api.MPoly, bool) {
	if len(b) == 0 {
		return nil, len(a) == 0
	}
	return mpoly.Div(a, b)
}

// is reports whether p is valid and equal to q.
func is(p, q api.MPoly) bool { return isValid(p) && same(p, q) }

// isOne reports whether p is 1.
func isOne(p api.MPoly) bool { return is(p, mpoly.Const(rational.Whole(1))) }

func TestGreatestCommonDivisors(t *testing.T) {
	r := rand.New(rand.NewSource(231))
	for range 2500 {
		a, b, c, d := some(r, 6, 3), some(r, 6, 3), some(r, 4, 2), some(r, 3, 2)
		ac, bc := product(a, c), product(b, c)
		g := mgcd.Gcd(ac, bc)
		p, first := divide(ac, g)
		q, second := divide(bc, g)
		_, third := divide(g, c)
		none := len(ac) == 0 && len(bc) == 0
		mustHold(t, map[string]bool{
			"the result is normal":                   isValid(g) && is(mgcd.Normal(g), g),
			"it divides both":                        first && second,
			"it is 0 only for 0 and 0":               (len(g) == 0) == none,
			"the quotients are coprime":              none || isOne(mgcd.Gcd(p, q)),
			"a common divisor divides it":            third,
			"it is commutative":                      is(mgcd.Gcd(bc, ac), g),
			"it is associative":                      is(mgcd.Gcd(mgcd.Gcd(ac, bc), product(c, d)), mgcd.Gcd(ac, mgcd.Gcd(bc, product(c, d)))),
			"a common factor can be taken out":       is(g, product(mgcd.Normal(c), mgcd.Gcd(a, b))),
			"also 0":                                 is(mgcd.Gcd(product(a, nil), product(b, nil)), nil),
			"with 0":                                 is(mgcd.Gcd(ac, nil), mgcd.Normal(ac)) && is(mgcd.Gcd(nil, ac), mgcd.Normal(ac)),
			"with itself":                            is(mgcd.Gcd(a, a), mgcd.Normal(a)),
			"with a multiple":                        is(mgcd.Gcd(c, ac), mgcd.Normal(c)) || len(ac) == 0,
			"with a sum":                             is(mgcd.Gcd(ac, mpoly.Add(bc, product(ac, d))), g),
			"of powers":                              is(mgcd.Gcd(product(ac, ac), product(bc, bc)), product(g, g)),
			"constant factors do not matter":         is(mgcd.Gcd(mpoly.Scale(ac, coefficient(r)), mpoly.Scale(bc, coefficient(r))), g),
			"Normal divides by the first number":     len(a) == 0 || is(mpoly.Scale(mgcd.Normal(a), a[0].C), a) && same(mgcd.Normal(a)[:1], mpoly.Make([]api.Mono{{E: a[0].E, C: rational.Whole(1)}})),
			"Normal of a product is that of factors": is(mgcd.Normal(ac), product(mgcd.Normal(a), mgcd.Normal(c))),
		}, a, b, c, d)
	}
}

// TestLargeDivisors has polynomials for which the remainders of Euclid's algorithm would be very long.
func TestLargeDivisors(t *testing.T) {
	r := rand.New(rand.NewSource(232))
	for _, x := range []struct{ count, terms, degree int }{{1, 60, 60}, {2, 40, 15}, {3, 30, 8}, {4, 25, 5}, {4, 6, 12}} {
		for range 5 {
			in := r.Perm(4)[:x.count]
			a, b, c := sample(r, x.terms, x.degree, in...), sample(r, x.terms, x.degree, in...), sample(r, x.terms, x.degree, in...)
			g := mgcd.Gcd(product(a, c), product(b, c))
			p, first := divide(product(a, c), g)
			q, second := divide(product(b, c), g)
			_, third := divide(g, c)
			if !isValid(g) || !first || !second || !third || len(g) > 0 && !isOne(mgcd.Gcd(p, q)) {
				t.Fatalf("Gcd of the products of %s is %s", texts(a, b, c), text(g))
			}
		}
	}
}

func TestGaussLemma(t *testing.T) {
	r := rand.New(rand.NewSource(233))
	for range 2500 {
		a, b, c, d, v := some(r, 5, 2), some(r, 5, 2), some(r, 3, 2), some(r, 3, 2), r.Intn(4)
		// Contents are rare without factors that do not have the variable.
		a, b = product(a, mpoly.Eval(c, v, rational.Whole(2))), product(b, mpoly.Eval(d, v, rational.Whole(1)))
		content, primitive := mgcd.Content(a, v), mgcd.Primitive(a, v)
		laws := map[string]bool{
			"the content is normal":                          isValid(content) && is(mgcd.Normal(content), content),
			"it does not have the variable":                  mpoly.Deg(content, v) < 1,
			"the product is the polynomial":                  isValid(primitive) && is(product(content, primitive), a),
			"the content of a product":                       is(mgcd.Content(product(a, b), v), product(content, mgcd.Content(b, v))),
			"the primitive part of a product":                is(mgcd.Primitive(product(a, b), v), product(primitive, mgcd.Primitive(b, v))),
			"both are 0 only for 0":                          (len(content) == 0) == (len(a) == 0) && (len(primitive) == 0) == (len(a) == 0),
			"the primitive part is primitive":                len(a) == 0 || isOne(mgcd.Content(primitive, v)) && is(mgcd.Primitive(primitive, v), primitive),
			"constant factors are in the primitive part":     is(mgcd.Content(mpoly.Scale(a, coefficient(r)), v), content),
			"a polynomial without the variable is a content": mpoly.Deg(a, v) > 0 || is(content, mgcd.Normal(a)),
		}
		for _, p := range mpoly.Coeffs(a, v) {
			_, ok := divide(p, content)
			laws["the content divides the coefficients"] = ok
		}
		mustHold(t, laws, a, b)
	}
}

func TestSquarefreeFactors(t *testing.T) {
	r := rand.New(rand.NewSource(234))
	for range 2500 {
		v := r.Intn(4)
		var l []api.MPoly
		for range r.Intn(4) {
			p := some(r, 3, 2)
			for range 1 + r.Intn(3) {
				l = append(l, p)
			}
		}
		a := product(l...)
		factors := mgcd.Squarefree(a, v)
		all := product()
		laws := map[string]bool{"without the variable there are none": (len(factors) == 0) == (mpoly.Deg(a, v) < 1)}
		for i, f := range factors {
			all = product(all, mpoly.Pow(f.P, f.N))
			laws["the factors are normal"] = isValid(f.P) && is(mgcd.Normal(f.P), f.P)
			laws["they have the variable"] = mpoly.Deg(f.P, v) > 0
			laws["the exponents increase"] = f.N > 0 && (i == 0 || f.N > factors[i-1].N)
			laws["they are primitive"] = isOne(mgcd.Content(f.P, v))
			laws["they are squarefree"] = mpoly.Deg(mgcd.Gcd(f.P, mpoly.Partial(f.P, v)), v) == 0 && !same(mgcd.Resultant(f.P, mpoly.Partial(f.P, v), v), nil)
			laws["they are coprime"] = !slices.ContainsFunc(factors[:i], func(g api.MFactor) bool { return !isOne(mgcd.Gcd(f.P, g.P)) })
			mustHold(t, laws, a, f.P)
		}
		laws["their powers multiply to the normal primitive part"] = mpoly.Deg(a, v) < 1 || is(all, mgcd.Normal(mgcd.Primitive(a, v)))
		mustHold(t, laws, a)
	}
}

// value returns a with p in place of v, times (-1)^n.
func value(a api.MPoly, v int, p api.MPoly, n int) api.MPoly {
	b := mpoly.Subst(a, v, p)
	if n%2 == 1 {
		return mpoly.Sub(nil, b)
	}
	return b
}

func TestResultants(t *testing.T) {
	r := rand.New(rand.NewSource(235))
	resultant := mgcd.Resultant
	for range 2500 {
		v := r.Intn(4)
		a, b, c := some(r, 3, 2), some(r, 3, 2), some(r, 3, 2)
		p := mpoly.Eval(some(r, 3, 2), v, rational.Whole(1))
		x, y := coefficient(r), coefficient(r)
		m, n := max(mpoly.Deg(a, v), 0), max(mpoly.Deg(b, v), 0)
		ab := resultant(a, b, v)
		line := mpoly.Sub(mpoly.Var(v), p)
		mustHold(t, map[string]bool{
			"the result is valid, without the variable": isValid(ab) && mpoly.Deg(ab, v) < 1,
			"it is multiplicative":                      is(resultant(product(a, b), c, v), product(resultant(a, c, v), resultant(b, c, v))),
			"also in the second argument":               is(resultant(a, product(b, c), v), product(ab, resultant(a, c, v))),
			"an exchange changes the sign":              is(resultant(b, a, v), mpoly.Scale(ab, rational.Whole(int64(1-m*n%2*2)))),
			"it vanishes with a common factor only":     (len(ab) == 0) == (len(a) == 0 || len(b) == 0 || mpoly.Deg(mgcd.Gcd(a, b), v) > 0),
			"it vanishes with a common factor":          mpoly.Deg(c, v) < 1 || len(resultant(product(a, c), product(b, c), v)) == 0,
			"of a and v - p":                            is(resultant(a, line, v), value(a, v, p, m)),
			"of v - p and a":                            is(resultant(line, a, v), value(a, v, p, 0)),
			"of numbers times the arguments":            is(resultant(mpoly.Scale(a, x), mpoly.Scale(b, y), v), product(ab, mpoly.Pow(mpoly.Const(x), n), mpoly.Pow(mpoly.Const(y), m))),
			"a multiple of the other one can be added":  m < n || len(b) == 0 || len(a) == 0 || sumHolds(a, b, v, ab),
			"with 0": len(resultant(a, nil, v)) == 0 && len(resultant(nil, a, v)) == 0,
		}, a, b, c, p)
	}
}

// sumHolds reports whether the resultant of a + b v^(m - n) and b is that of a and b, which is ab, up to the power of the leading coefficient of b for the degree that may have changed.
func sumHolds(a, b api.MPoly, v int, ab api.MPoly) bool {
	m, n := mpoly.Deg(a, v), mpoly.Deg(b, v)
	sum := mpoly.Add(a, product(b, mpoly.Pow(mpoly.Var(v), m-n)))
	lost := m - mpoly.Deg(sum, v)
	if len(sum) == 0 {
		return n == 0 || len(ab) == 0
	}
	lead := mpoly.Coeffs(b, v)[n]
	return is(value(product(mgcd.Resultant(sum, b, v), mpoly.Pow(lead, lost)), v, nil, lost*n), ab)
}
