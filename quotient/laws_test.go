package quotient_test

import (
	"math/rand"
	"slices"
	"testing"

	"quadrature/api"
	"quadrature/poly"
	"quadrature/quotient"
	"quadrature/rational"
)

// same reports whether a and b have the same numbers, in the same representation.
func same(a, b []api.Rat) bool {
	return slices.EqualFunc(a, b, func(x, y api.Rat) bool {
		return x.Num.Neg == y.Num.Neg && x.Den.Neg == y.Den.Neg && slices.Equal(x.Num.Mag, y.Num.Mag) && slices.Equal(x.Den.Mag, y.Den.Mag)
	})
}

// equal reports whether x and y are the same number, in the same representation.
func equal(x, y api.Rat) bool { return same([]api.Rat{x}, []api.Rat{y}) }

// mustHold checks laws for elements modulo q.
func mustHold(t *testing.T, laws map[string]bool, q api.Poly, elements ...api.Poly) {
	t.Helper()
	for law, ok := range laws {
		if !ok {
			t.Errorf("%s: modulo (%s), for", law, text(q))
			for _, a := range elements {
				t.Errorf("(%s)", text(a))
			}
			t.FailNow()
		}
	}
}

func TestRing(t *testing.T) {
	one := of(t, "1")
	samples(171, 500, func(r *rand.Rand, q, a, b api.Poly) {
		c := sample(r, 6)
		mul := func(x, y api.Poly) api.Poly { return quotient.Mul(q, x, y) }
		reduce := func(x api.Poly) api.Poly { return quotient.Reduce(q, x) }
		ab, multiple := mul(a, b), poly.Mul(q, c)
		mustHold(t, map[string]bool{
			"products are reduced":                len(ab) < len(q) && len(reduce(a)) < len(q) && poly.Valid(ab) && poly.Valid(reduce(a)),
			"reduced elements stay":               same(reduce(reduce(a)), reduce(a)) && same(reduce(ab), ab),
			"a - Reduce(a) is a multiple":         len(reduce(poly.Sub(a, reduce(a)))) == 0,
			"a b = b a":                           same(ab, mul(b, a)),
			"(a b) c = a (b c)":                   same(mul(ab, c), mul(a, mul(b, c))),
			"a (b + c) = a b + a c":               same(mul(a, poly.Add(b, c)), poly.Add(ab, mul(a, c))),
			"a 1 = a":                             same(mul(a, one), reduce(a)) && same(mul(one, a), reduce(a)),
			"a 0 = 0":                             len(mul(a, nil)) == 0 && len(mul(nil, a)) == 0,
			"sums of reduced elements":            same(reduce(poly.Add(a, b)), poly.Add(reduce(a), reduce(b))),
			"products depend on the classes only": same(mul(poly.Add(a, multiple), b), ab) && same(mul(reduce(a), reduce(b)), ab) && same(mul(a, poly.Sub(b, multiple)), ab),
			"multiples of the modulus are 0":      len(reduce(multiple)) == 0 && len(mul(multiple, b)) == 0,
		}, q, a, b, c)
	})
}

func TestInverses(t *testing.T) {
	samples(172, 500, func(r *rand.Rand, q, a, b api.Poly) {
		s, err := quotient.Inv(q, a)
		shifted, errShifted := quotient.Inv(q, poly.Add(a, poly.Mul(q, b)))
		other, errOther := quotient.Inv(q, b)
		product, errProduct := quotient.Inv(q, poly.Mul(a, b))
		mustHold(t, map[string]bool{
			"an inverse means no common root":      (err == api.OK) == (len(poly.Gcd(a, q)) == 1),
			"no other error":                       err == api.OK || err == api.ErrInverse && len(s) == 0,
			"inverses depend on the classes only":  err == errShifted && same(s, shifted),
			"a b has an inverse if a and b have":   (errProduct == api.OK) == (err == api.OK && errOther == api.OK),
			"the inverse of a product":             errProduct != api.OK || same(product, quotient.Mul(q, s, other)),
			"the product with the inverse":         err != api.OK || text(quotient.Mul(q, s, a)) == "1" && text(quotient.Mul(q, a, s)) == "1",
			"inverses are reduced":                 len(s) < len(q) && poly.Valid(s),
			"a factor of the modulus divides zero": err == api.OK || dividesZero(q, a),
		}, q, a, b)
		if err == api.OK {
			mustInvert(t, q, s, text(quotient.Reduce(q, a)))
		}
	})
}

// dividesZero reports whether a has the product 0 with an element other than 0: with the part of q that has no root in common with a.
func dividesZero(q, a api.Poly) bool {
	other, _, _ := poly.DivMod(q, poly.Gcd(q, a))
	return len(quotient.Reduce(q, other)) > 0 && len(quotient.Mul(q, a, other)) == 0 || len(quotient.Reduce(q, a)) == 0
}

// powerOf returns the n-th power of c.
func powerOf(c api.Rat, n int) api.Rat {
	out := rational.Whole(1)
	for range n {
		out = rational.Mul(out, c)
	}
	return out
}

func TestTracesAndNorms(t *testing.T) {
	samples(173, 500, func(r *rand.Rand, q, a, b api.Poly) {
		c, n := coefficient(r), len(q)-1
		trace := func(x api.Poly) api.Rat { return quotient.Trace(q, x) }
		norm := func(x api.Poly) api.Rat { return quotient.Norm(q, x) }
		multiple, other := poly.Mul(q, b), poly.Scale(q, nonzero(r))
		_, err := quotient.Inv(q, a)
		constant := poly.Trim([]api.Rat{c})
		mustHold(t, map[string]bool{
			"Trace(a + b) = Trace(a) + Trace(b)": equal(trace(poly.Add(a, b)), rational.Add(trace(a), trace(b))),
			"Trace(c a) = c Trace(a)":            equal(trace(poly.Scale(a, c)), rational.Mul(c, trace(a))),
			"Trace(c) = n c":                     equal(trace(constant), rational.Mul(rational.Whole(int64(n)), c)),
			"Norm(a b) = Norm(a) Norm(b)":        equal(norm(poly.Mul(a, b)), rational.Mul(norm(a), norm(b))),
			"Norm(c) = c^n":                      equal(norm(constant), powerOf(c, n)),
			"Norm(c a) = c^n Norm(a)":            equal(norm(poly.Scale(a, c)), rational.Mul(powerOf(c, n), norm(a))),
			"the norm is 0 without an inverse":   (rational.Sign(norm(a)) == 0) == (err == api.ErrInverse),
			"they depend on the class only":      equal(trace(poly.Add(a, multiple)), trace(a)) && equal(norm(poly.Add(a, multiple)), norm(a)),
			"they depend on the roots only":      equal(quotient.Trace(other, a), trace(a)) && equal(quotient.Norm(other, a), norm(a)),
		}, q, a, b, constant)
	})
}

func TestModuliOfSeveralFactors(t *testing.T) {
	// The roots of a product are those of its factors: sums add up, and products multiply.
	r := rand.New(rand.NewSource(174))
	for range 300 {
		q, _ := modulus(r)
		p, _ := modulus(r)
		if len(poly.Gcd(q, p)) != 1 {
			continue
		}
		a, both := sample(r, 6), poly.Mul(q, p)
		sums, first, second := quotient.Power(both, 8), quotient.Power(q, 8), quotient.Power(p, 8)
		for i := range sums {
			if !equal(sums[i], rational.Add(first[i], second[i])) {
				t.Fatalf("Power: sum %d of (%s) and (%s)", i, text(q), text(p))
			}
		}
		f, g := quotient.Minimal(q, a), quotient.Minimal(p, a)
		least, _, _ := poly.DivMod(poly.Mul(f, g), poly.Gcd(f, g))
		mustHold(t, map[string]bool{
			"the trace":              equal(quotient.Trace(both, a), rational.Add(quotient.Trace(q, a), quotient.Trace(p, a))),
			"the norm":               equal(quotient.Norm(both, a), rational.Mul(quotient.Norm(q, a), quotient.Norm(p, a))),
			"the minimal polynomial": same(quotient.Minimal(both, a), least),
		}, q, p, a)
	}
}

func TestPowersAreTraces(t *testing.T) {
	samples(175, 200, func(r *rand.Rand, q, a, b api.Poly) {
		n := r.Intn(10)
		sums := quotient.Power(q, n)
		if len(sums) != n {
			t.Fatalf("Power of (%s): %d sums, not %d", text(q), len(sums), n)
		}
		power := of(t, "1")
		for i, s := range sums {
			if !equal(s, quotient.Trace(q, power)) {
				t.Fatalf("Power of (%s): sum %d is %s", text(q), i, rational.Text(s))
			}
			power = poly.Mul(power, of(t, "0 1"))
		}
		if !same(quotient.Power(poly.Scale(q, nonzero(r)), n), sums) {
			t.Fatalf("Power of (%s) and of a multiple are different", text(q))
		}
	})
}

// valueAt returns the remainder of f(a) by q.
func valueAt(q, f, a api.Poly) api.Poly {
	var y api.Poly
	for _, c := range slices.Backward(f) {
		y = poly.Add(quotient.Mul(q, y, a), poly.Trim([]api.Rat{c}))
	}
	return y
}

func TestMinimalPolynomials(t *testing.T) {
	samples(176, 500, func(r *rand.Rand, q, a, b api.Poly) {
		f, c := quotient.Minimal(q, a), coefficient(r)
		d := len(f) - 1
		if d < 1 {
			t.Fatalf("Minimal of (%s) modulo (%s) = %s", text(a), text(q), text(f))
		}
		shifted, constant := poly.Add(a, poly.Trim([]api.Rat{c})), poly.Trim([]api.Rat{c})
		last, full := rational.Neg(f[d-1]), len(f) == len(q)
		_, err := quotient.Inv(q, a)
		mustHold(t, map[string]bool{
			"it is monic and valid":                 rational.Text(f[d]) == "1" && poly.Valid(f),
			"it has no multiple roots":              len(poly.Gcd(f, poly.Diff(f))) == 1 && quotient.Valid(f),
			"its degree":                            d <= len(q)-1,
			"it vanishes":                           len(valueAt(q, f, a)) == 0,
			"its least degree":                      d == len(plainMinimal(toPlain(q), toPlain(a)))-1,
			"it depends on the class only":          same(quotient.Minimal(q, poly.Add(a, poly.Mul(q, b))), f),
			"it depends on the roots only":          same(quotient.Minimal(poly.Scale(q, nonzero(r)), a), f),
			"a sum with a number shifts it":         same(quotient.Minimal(q, shifted), poly.Shift(f, rational.Neg(c))),
			"constants have degree 1":               same(quotient.Minimal(q, constant), api.Poly{rational.Neg(c), rational.Whole(1)}),
			"z has the monic modulus":               same(quotient.Minimal(q, of(t, "0 1")), poly.Monic(q)),
			"its coefficients, with all values":     !full || equal(last, quotient.Trace(q, a)) && equal(rational.Mul(powerOf(rational.Whole(-1), d), f[0]), quotient.Norm(q, a)),
			"0 is a root if there is no inverse":    (rational.Sign(f[0]) == 0) == (err == api.ErrInverse),
			"its root has itself as the polynomial": same(quotient.Minimal(f, of(t, "0 1")), f),
		}, q, a, b, constant)
	})
}
