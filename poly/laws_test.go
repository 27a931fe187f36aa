package poly_test

import (
	"math/rand"
	"testing"

	"quadrature/api"
	"quadrature/poly"
	"quadrature/rational"
)

func TestRing(t *testing.T) {
	r := rand.New(rand.NewSource(61))
	add, sub, mul := poly.Add, poly.Sub, poly.Mul
	zero, one, minus := of(t, ""), of(t, "1"), of(t, "-1")
	for range 500 {
		a, b, c := sample(r, 6), sample(r, 6), sample(r, 6)
		ab := mul(a, b)
		for law, ok := range map[string]bool{
			"a + b = b + a":             same(add(a, b), add(b, a)),
			"(a + b) + c = a + (b + c)": same(add(add(a, b), c), add(a, add(b, c))),
			"a + 0 = a":                 same(add(a, zero), a) && same(add(zero, a), a),
			"a - a = 0":                 same(sub(a, a), zero) && same(add(a, mul(minus, a)), zero),
			"a - b = a + (-1) b":        same(sub(a, b), add(a, mul(minus, b))),
			"a b = b a":                 same(ab, mul(b, a)),
			"(a b) c = a (b c)":         same(mul(ab, c), mul(a, mul(b, c))),
			"a 1 = a":                   same(mul(a, one), a) && same(mul(one, a), a),
			"a 0 = 0":                   same(mul(a, zero), zero) && same(mul(zero, a), zero),
			"a (b + c) = a b + a c":     same(mul(a, add(b, c)), add(ab, mul(a, c))),
			"no zero divisors":          (len(ab) == 0) == (len(a) == 0 || len(b) == 0),
			"degrees add up":            len(ab) == 0 || len(ab) == len(a)+len(b)-1,
			"Equal is identity":         poly.Equal(a, b) == same(a, b) && poly.Equal(a, a),
			"results are valid":         poly.Valid(ab) && isValid(ab) && isValid(add(a, b)) && isValid(sub(a, b)),
		} {
			if !ok {
				t.Fatalf("%s: %s, %s, %s", law, text(a), text(b), text(c))
			}
		}
	}
}

func TestScaleAndMonicAreProducts(t *testing.T) {
	r := rand.New(rand.NewSource(62))
	for range 500 {
		a, c := sample(r, 7), coefficient(r)
		if !same(poly.Scale(a, c), poly.Mul(a, poly.Trim([]api.Rat{c}))) {
			t.Fatalf("%v times %s", c, text(a))
		}
		if len(a) == 0 {
			continue
		}
		m := poly.Monic(a)
		if !isValid(m) || rational.Text(m[len(m)-1]) != "1" || !same(poly.Scale(m, a[len(a)-1]), a) {
			t.Fatalf("Monic(%s) = %s", text(a), text(m))
		}
	}
}

func TestDivision(t *testing.T) {
	pairs(63, 800, 8, func(a, b api.Poly) {
		q, r, err := poly.DivMod(a, b)
		if len(b) == 0 {
			if err != api.ErrZero || len(q) != 0 || len(r) != 0 {
				t.Fatalf("DivMod(%s, 0) = %s, %s, %v", text(a), text(q), text(r), err)
			}
			return
		}
		if err != api.OK || !isValid(q) || !isValid(r) || len(r) >= len(b) || !same(poly.Add(poly.Mul(q, b), r), a) {
			t.Fatalf("DivMod(%s, %s) = %s, %s, %v", text(a), text(b), text(q), text(r), err)
		}
		q, r, err = poly.DivMod(poly.Mul(a, b), b)
		if err != api.OK || !same(q, a) || len(r) != 0 {
			t.Fatalf("(%s) (%s) divided by the second one: %s, %s, %v", text(a), text(b), text(q), text(r), err)
		}
	})
}

// divides reports whether g divides a.
func divides(g, a api.Poly) bool {
	_, r, err := poly.DivMod(a, g)
	return err == api.OK && len(r) == 0
}

func TestGcdIsTheGreatestDivisor(t *testing.T) {
	r := rand.New(rand.NewSource(64))
	pairs(65, 400, 6, func(a, b api.Poly) {
		g := poly.Gcd(a, b)
		if len(a) == 0 && len(b) == 0 {
			if len(g) != 0 {
				t.Fatalf("Gcd(0, 0) = %s", text(g))
			}
			return
		}
		if !isValid(g) || rational.Text(g[len(g)-1]) != "1" || !divides(g, a) || !divides(g, b) || !same(g, poly.Gcd(b, a)) {
			t.Fatalf("Gcd(%s, %s) = %s", text(a), text(b), text(g))
		}
		// A combination of a and b: every common divisor divides it.
		h, s, u := poly.Ext(a, b)
		if !same(g, h) || !same(poly.Add(poly.Mul(s, a), poly.Mul(u, b)), g) {
			t.Fatalf("Ext(%s, %s) = %s, %s, %s", text(a), text(b), text(h), text(s), text(u))
		}
		c := poly.Monic(append(sample(r, 4), rational.Whole(2)))
		if got := poly.Gcd(poly.Mul(a, c), poly.Mul(b, c)); !same(got, poly.Mul(g, c)) {
			t.Fatalf("Gcd of (%s) and (%s), times (%s), is %s", text(a), text(b), text(c), text(got))
		}
	})
}

func TestDerivation(t *testing.T) {
	r := rand.New(rand.NewSource(66))
	add, mul, diff := poly.Add, poly.Mul, poly.Diff
	for range 500 {
		a, b, c, d := sample(r, 7), sample(r, 7), coefficient(r), coefficient(r)
		if !same(diff(add(poly.Scale(a, c), poly.Scale(b, d))), add(poly.Scale(diff(a), c), poly.Scale(diff(b), d))) {
			t.Fatalf("Diff is not linear: %s, %s, %v, %v", text(a), text(b), c, d)
		}
		if !same(diff(mul(a, b)), add(mul(diff(a), b), mul(a, diff(b)))) {
			t.Fatalf("the product rule does not hold: %s, %s", text(a), text(b))
		}
	}
}

func TestEvalPreservesSumsAndProducts(t *testing.T) {
	r := rand.New(rand.NewSource(67))
	for range 500 {
		a, b, x := sample(r, 7), sample(r, 7), coefficient(r)
		u, v := poly.Eval(a, x), poly.Eval(b, x)
		if !rational.Valid(u) || rational.Cmp(poly.Eval(poly.Add(a, b), x), rational.Add(u, v)) != 0 || rational.Cmp(poly.Eval(poly.Mul(a, b), x), rational.Mul(u, v)) != 0 {
			t.Fatalf("values of %s and %s at %v", text(a), text(b), x)
		}
		_, rest, err := poly.DivMod(a, api.Poly{rational.Neg(x), rational.Whole(1)})
		if err != api.OK || !same(rest, poly.Trim([]api.Rat{u})) {
			t.Fatalf("the value of %s at %v is %v, the remainder by x - c is %s", text(a), x, u, text(rest))
		}
	}
}

func TestShiftPreservesSumsAndProducts(t *testing.T) {
	r := rand.New(rand.NewSource(68))
	for range 300 {
		a, b, c, d := sample(r, 7), sample(r, 7), coefficient(r), coefficient(r)
		u, v := poly.Shift(a, c), poly.Shift(b, c)
		for law, ok := range map[string]bool{
			"sums":       same(poly.Shift(poly.Add(a, b), c), poly.Add(u, v)),
			"products":   same(poly.Shift(poly.Mul(a, b), c), poly.Mul(u, v)),
			"values":     rational.Cmp(poly.Eval(u, d), poly.Eval(a, rational.Add(d, c))) == 0,
			"addition":   same(poly.Shift(u, d), poly.Shift(a, rational.Add(c, d))),
			"inverses":   same(poly.Shift(u, rational.Neg(c)), a),
			"derivation": same(poly.Diff(u), poly.Shift(poly.Diff(a), c)),
			"validity":   isValid(u),
		} {
			if !ok {
				t.Fatalf("%s under the shift by %v: %s, %s", law, c, text(a), text(b))
			}
		}
	}
}

func TestResultantIsMultiplicative(t *testing.T) {
	r := rand.New(rand.NewSource(69))
	for range 200 {
		a, b, c := sample(r, 5), sample(r, 5), sample(r, 5)
		if len(a) == 0 || len(b) == 0 || len(c) == 0 {
			continue
		}
		product := rational.Mul(poly.Resultant(a, c), poly.Resultant(b, c))
		if got := poly.Resultant(poly.Mul(a, b), c); rational.Cmp(got, product) != 0 {
			t.Fatalf("Resultant of (%s) (%s) and (%s) = %v", text(a), text(b), text(c), got)
		}
		product = rational.Mul(poly.Resultant(c, a), poly.Resultant(c, b))
		if got := poly.Resultant(c, poly.Mul(a, b)); rational.Cmp(got, product) != 0 {
			t.Fatalf("Resultant of (%s) and (%s) (%s) = %v", text(c), text(a), text(b), got)
		}
	}
}

func TestResultantTellsCommonFactors(t *testing.T) {
	pairs(70, 400, 6, func(a, b api.Poly) {
		common := len(a) == 0 || len(b) == 0 || len(poly.Gcd(a, b)) > 1
		if got := poly.Resultant(a, b); !rational.Valid(got) || (rational.Sign(got) == 0) != common {
			t.Fatalf("Resultant of (%s) and (%s) = %v", text(a), text(b), got)
		}
	})
}
