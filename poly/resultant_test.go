package poly_test

import (
	"math/rand"
	"testing"

	"quadrature/api"
	"quadrature/poly"
	"quadrature/rational"
)

func TestResultant(t *testing.T) {
	for _, x := range []struct{ a, b, r string }{
		{"", "", "0"}, {"", "3", "0"}, {"3", "", "0"}, {"", "1 2 1", "0"}, {"1 2 1", "", "0"},
		{"1", "1", "1"}, {"2", "-3/4", "1"}, {"-1/2", "5", "1"},
		{"3", "0 1", "3"}, {"0 1", "3", "3"}, {"-2/3", "1 2 3 4", "-8/27"}, {"1 2 3 4", "-2/3", "-8/27"}, {"-2/3", "1 2 3", "4/9"}, {"1 2 3", "-2/3", "4/9"},
		{"1 1", "1 1", "0"}, {"2 3 1", "3 4 1", "0"}, {"-1 0 0 1", "-1 0 0 0 1", "0"}, {"1 0 1", "2 0 2", "0"}, {"0 1 5", "0 3", "0"},
		// Two odd degrees: the order of the arguments decides about the sign.
		{"-2 1", "-5 1", "-3"}, {"-5 1", "-2 1", "3"}, {"-1 2", "3 5", "11"}, {"3 5", "-1 2", "-11"}, {"1 0 0 1", "0 1", "-1"}, {"0 1", "1 0 0 1", "1"},
		// An even degree: it does not.
		{"-2 0 1", "-1 1", "-1"}, {"-1 1", "-2 0 1", "-1"}, {"1 0 1", "1 0 0 1", "2"}, {"1 0 0 1", "1 0 1", "2"}, {"-2 0 1", "-3 0 1", "1"}, {"-3 0 1", "-2 0 1", "1"},
		{"1 1/2", "1/3 0 2", "25/12"}, {"1/3 0 2", "1 1/2", "25/12"},
	} {
		mustBeNumber(t, "Resultant of ("+x.a+") and ("+x.b+")", poly.Resultant(of(t, x.a), of(t, x.b)), x.r)
	}
}

// powerOf returns the n-th power of c.
func powerOf(c api.Rat, n int) api.Rat {
	out := rational.Whole(1)
	for range n {
		out = rational.Mul(out, c)
	}
	return out
}

func TestResultantsOfHighDegrees(t *testing.T) {
	// The exponents are larger than those that rational.Pow takes.
	c, high := number(t, "-2/3"), power(t, 301)
	want := rational.Text(powerOf(c, 301))
	mustBeNumber(t, "Resultant of x^301 and -2/3", poly.Resultant(high, api.Poly{c}), want)
	mustBeNumber(t, "Resultant of -2/3 and x^301", poly.Resultant(api.Poly{c}, high), want)
	// The value of x^301 at the root -2/3 of x + 2/3.
	mustBeNumber(t, "Resultant of x + 2/3 and x^301", poly.Resultant(of(t, "2/3 1"), high), want)
	mustBeNumber(t, "Resultant of x^301 and x + 2/3", poly.Resultant(high, of(t, "2/3 1")), rational.Text(rational.Neg(powerOf(c, 301))))
	// The content of one argument enters with the degree of the other one.
	mustBeNumber(t, "Resultant of -2/3 x^301 and x + 1", poly.Resultant(poly.Scale(high, c), of(t, "1 1")), "-2/3")
	mustBeNumber(t, "Resultant of x^301 and -2/3 (x + 1)", poly.Resultant(high, poly.Scale(of(t, "1 1"), c)), want)
}

func TestResultantsOfProductsOfRoots(t *testing.T) {
	// For monic a with the roots c, the resultant is the product of the b(c).
	r := rand.New(rand.NewSource(41))
	for range 200 {
		a, want := of(t, "1"), rational.Whole(1)
		b := sample(r, 5)
		for range r.Intn(6) {
			c := coefficient(r)
			a = poly.Mul(a, api.Poly{rational.Neg(c), rational.Whole(1)})
			want = rational.Mul(want, poly.Eval(b, c))
		}
		if len(b) == 0 {
			want = rational.Whole(0)
		}
		mustBeNumber(t, "Resultant of ("+text(a)+") and ("+text(b)+")", poly.Resultant(a, b), rational.Text(want))
	}
}
