package quotient_test

import (
	"strings"
	"testing"

	"quadrature/api"
	"quadrature/integer"
	"quadrature/poly"
	"quadrature/quotient"
	"quadrature/rational"
)

// number returns the rational number with the notation s.
func number(t *testing.T, s string) api.Rat {
	t.Helper()
	c, err := rational.Read(s)
	if err != api.OK {
		t.Fatalf("rational.Read(%q): %v", s, err)
	}
	return c
}

// list returns the numbers that s lists.
func list(t *testing.T, s string) []api.Rat {
	t.Helper()
	var out []api.Rat
	for word := range strings.FieldsSeq(s) {
		out = append(out, number(t, word))
	}
	return out
}

// of returns the polynomial whose coefficients s lists, that of degree 0 first.
func of(t *testing.T, s string) api.Poly {
	t.Helper()
	p := api.Poly(list(t, s))
	if !poly.Valid(p) {
		t.Fatalf("%q ends with a zero", s)
	}
	return p
}

// text lists numbers.
func text(l []api.Rat) string {
	var words []string
	for _, c := range l {
		words = append(words, rational.Text(c))
	}
	return strings.Join(words, " ")
}

// raw returns n/d as it stands, without taking out common factors.
func raw(n, d int64) api.Rat { return api.Rat{Num: integer.Of(n), Den: integer.Of(d)} }

// mustBe checks that a result is the polynomial with the coefficients that want lists.
func mustBe(t *testing.T, call string, p api.Poly, want string) {
	t.Helper()
	if !poly.Valid(p) || text(p) != want {
		t.Fatalf("%s = %s (valid: %v), want %s", call, text(p), poly.Valid(p), want)
	}
}

// mustBeNumber checks that a result is the number with the notation want.
func mustBeNumber(t *testing.T, call string, c api.Rat, want string) {
	t.Helper()
	if !rational.Valid(c) || rational.Text(c) != want {
		t.Fatalf("%s = %v, want %s", call, c, want)
	}
}

// mustInvert checks that a has the inverse that want lists.
func mustInvert(t *testing.T, q, a api.Poly, want string) {
	t.Helper()
	s, err := quotient.Inv(q, a)
	if err != api.OK {
		t.Fatalf("Inv of (%s) modulo (%s): %v", text(a), text(q), err)
	}
	mustBe(t, "Inv of ("+text(a)+") modulo ("+text(q)+")", s, want)
}

// mustNotInvert checks that Inv returns the zero polynomial and ErrInverse.
func mustNotInvert(t *testing.T, q, a api.Poly) {
	t.Helper()
	if s, err := quotient.Inv(q, a); len(s) != 0 || err != api.ErrInverse {
		t.Fatalf("Inv of (%s) modulo (%s) = %s, %v, want ErrInverse", text(a), text(q), text(s), err)
	}
}

func TestExamplesOfTheChapter(t *testing.T) {
	q := of(t, "-2 0 1")
	mustInvert(t, q, of(t, "0 1"), "0 1/2")
	mustBeNumber(t, "Trace of z + 1 modulo z^2 - 2", quotient.Trace(q, of(t, "1 1")), "2")
	mustBeNumber(t, "Norm of z + 1 modulo z^2 - 2", quotient.Norm(q, of(t, "1 1")), "-1")
	mustBe(t, "Minimal of z^2 modulo z^2 - 2", quotient.Minimal(q, of(t, "0 0 1")), "-2 1")
}

func TestValid(t *testing.T) {
	for s, want := range map[string]bool{
		// 0, constants, and degree 1.
		"": false, "1": false, "-3/4": false, "0 1": true, "0 -2/3": true, "5 1": true, "1/2 7": true,
		// Irreducible ones.
		"1 0 1": true, "-2 0 1": true, "-2 0 -3": true, "1 1 1": true, "2/3 0 0 5": true, "1 0 0 0 1": true,
		// Products of different factors, monic or not: z (z - 1), 2 z (z - 1) (z + 1), (z^2 - 2) (z^2 + 1), (2 z - 1) (3 z + 1) / 6.
		"0 -1 1": true, "0 -2 0 2": true, "-2 0 -1 0 1": true, "-1/6 -1/6 1": true,
		// Multiple roots: z^2, (z - 1)^2, -2 (z + 1/2)^2, z^2 (z + 1), (z^2 + 1)^2, 3 (z^2 - 2)^2 z, z^5, (z - 1)^3 (z + 1).
		"0 0 1": false, "1 -2 1": false, "-1/2 -2 -2": false, "0 0 1 1": false, "1 0 2 0 1": false, "0 12 0 -12 0 3": false, "0 0 0 0 0 1": false, "-1 2 0 -2 1": false,
	} {
		if got := quotient.Valid(of(t, s)); got != want {
			t.Errorf("Valid(%s) = %v", s, got)
		}
	}
}

func TestListsThatAreNoPolynomialsAreNotValid(t *testing.T) {
	for _, s := range []string{"0", "0 0", "1 0", "0 1 0", "-2 0 1 0", "1/2 3 0 0"} {
		if quotient.Valid(list(t, s)) {
			t.Errorf("%s is valid", s)
		}
	}
	one := integer.Of(1)
	for _, bad := range []api.Rat{
		{}, raw(1, 0), raw(0, 0), raw(1, -1), raw(-1, -2), raw(2, 4), raw(-6, 3), raw(5, 5), raw(0, 2),
		{Num: api.Int{Neg: true}, Den: one}, {Num: api.Int{Mag: []uint32{3, 0}}, Den: one}, {Num: one, Den: api.Int{Mag: []uint32{2, 0}}},
	} {
		for _, q := range []api.Poly{{bad, raw(1, 1)}, {raw(1, 1), bad}, {raw(-2, 1), bad, raw(1, 1)}, {raw(-2, 1), raw(0, 1), bad}} {
			if quotient.Valid(q) {
				t.Errorf("%v is valid", q)
			}
		}
	}
}

func TestReduce(t *testing.T) {
	for _, x := range []struct{ q, a, want string }{
		// Degree 1: the value at the root.
		{"0 1", "", ""}, {"0 1", "5", "5"}, {"0 1", "3 4 5", "3"}, {"-2 1", "0 1", "2"}, {"-2 1", "1 1 1", "7"}, {"1 2", "0 0 1", "1/4"}, {"3 -1", "-9 0 1", ""},
		// Smaller, equal and larger degrees.
		{"-2 0 1", "", ""}, {"-2 0 1", "7/3", "7/3"}, {"-2 0 1", "1 -1/2", "1 -1/2"}, {"-2 0 1", "0 0 1", "2"}, {"-2 0 1", "1 2 3", "7 2"}, {"-2 0 1", "-2 0 1", ""}, {"-2 0 1", "0 0 0 1", "0 2"}, {"-2 0 1", "1 1 1 1 1", "7 3"},
		{"0 -1 0 1", "0 0 0 0 0 0 1", "0 0 1"}, {"1 1 1", "0 0 0 1", "1"}, {"0 0 0 1", "1 2 3 4", "1 2 3"},
		// Not monic.
		{"-4 0 2", "0 0 1", "2"}, {"1 0 -3", "0 0 1", "1/3"}, {"1 1/2", "1 1 1", "3"}, {"1/3 1 -2/5", "0 0 1", "5/6 5/2"},
	} {
		mustBe(t, "Reduce of ("+x.a+") modulo ("+x.q+")", quotient.Reduce(of(t, x.q), of(t, x.a)), x.want)
	}
}

func TestMul(t *testing.T) {
	for _, x := range []struct{ q, a, b, want string }{
		{"-3 1", "2", "5", "10"}, {"-3 1", "0 1", "1 1", "12"}, {"1 2", "0 1", "0 0 1", "-1/8"}, {"-3 1", "", "4", ""}, {"-3 1", "-3 1", "4", ""},
		{"-2 0 1", "", "1 1", ""}, {"-2 0 1", "1", "1 1", "1 1"}, {"-2 0 1", "-2/3", "3 0 1", "-10/3"}, {"-2 0 1", "0 1", "0 1", "2"}, {"-2 0 1", "1 1", "-1 1", "1"}, {"-2 0 1", "1 1", "1 1", "3 2"},
		{"-2 0 1", "0 0 0 1", "0 0 1", "0 4"}, {"-2 0 1", "-2 0 1", "1 2 3", ""},
		// Zero divisors, because z^3 - z is not irreducible.
		{"0 -1 0 1", "0 1", "-1 0 1", ""}, {"0 -1 0 1", "0 1", "0 0 1", "0 1"}, {"0 -1 0 1", "0 1 1", "0 -1 1", ""},
		{"1 0 2", "0 1", "0 1", "-1/2"}, {"1 0 0 -3", "0 0 1", "1 1", "1/3 0 1"}, {"-4 0 2", "1 1", "1 1", "3 2"},
	} {
		q, a, b := of(t, x.q), of(t, x.a), of(t, x.b)
		mustBe(t, "Mul of ("+x.a+") and ("+x.b+") modulo ("+x.q+")", quotient.Mul(q, a, b), x.want)
		mustBe(t, "Mul of ("+x.b+") and ("+x.a+") modulo ("+x.q+")", quotient.Mul(q, b, a), x.want)
	}
}

func TestInv(t *testing.T) {
	for _, x := range []struct{ q, a, want string }{
		// Constants.
		{"0 1", "5", "1/5"}, {"-2 0 1", "1", "1"}, {"-2 0 1", "-2/3", "-3/2"}, {"0 -1 0 3", "1/4", "4"},
		{"-2 1", "0 1", "1/2"}, {"-2 1", "1 1 1", "1/7"}, {"1 2", "0 1", "-2"},
		{"-2 0 1", "1 1", "-1 1"}, {"-2 0 1", "1 2", "-1/7 2/7"}, {"1 0 1", "0 1", "0 -1"}, {"1 0 1", "1 1", "1/2 -1/2"}, {"-2 0 0 1", "0 1", "0 0 1/2"}, {"-2 0 0 1", "1 1", "1/3 -1/3 1/3"},
		// Not reduced.
		{"-2 0 1", "0 0 1", "1/2"}, {"-2 0 1", "0 0 0 1", "0 1/4"}, {"-2 0 1", "-1 0 1", "1"}, {"-2 0 1", "-1 1 1", "-1 1"}, {"0 -1 0 1", "1 0 0 0 0 0 1", "1 0 -1/2"},
		// No common root with a modulus that is not irreducible: z^2 - z, z^3 - z.
		{"0 -1 1", "1 1", "1 -1/2"}, {"0 -1 0 1", "1 0 1", "1 0 -1/2"}, {"0 -1 0 1", "-2 1", "-1/2 -1/3 -1/6"},
		// Not monic.
		{"-4 0 2", "0 1", "0 1/2"}, {"3 0 -1", "1 1", "-1/2 1/2"}, {"1 3 2", "2 1", "1/3 -2/3"},
	} {
		mustInvert(t, of(t, x.q), of(t, x.a), x.want)
	}
}

func TestInvOfZeroDivisors(t *testing.T) {
	for _, x := range []struct{ q, a string }{
		// 0, and what has the remainder 0.
		{"0 1", ""}, {"-2 0 1", ""}, {"0 -1 0 1", ""}, {"0 1", "0 3"}, {"-2 1", "-4 0 1"}, {"-2 0 1", "-2 0 1"}, {"-2 0 1", "0 -2 0 1"}, {"-4 0 2", "6 0 -3"},
		// Some common roots: those of z^2 - z, of z^3 - z, and of (z^2 - 2) (z^2 + 1).
		{"0 -1 1", "0 1"}, {"0 -1 1", "-1 1"}, {"0 -1 1", "0 0 0 0 5"}, {"0 -1 0 1", "0 1"}, {"0 -1 0 1", "1 2 1"}, {"0 -1 0 1", "-2 1 1"}, {"0 -2 0 2", "0 -1/3"}, {"-2 0 -1 0 1", "-2 0 1"}, {"-2 0 -1 0 1", "0 1 0 1"}, {"-2 0 -1 0 1", "7 0 8 0 1"},
	} {
		mustNotInvert(t, of(t, x.q), of(t, x.a))
	}
}

func TestTraceAndNorm(t *testing.T) {
	for _, x := range []struct{ q, a, trace, norm string }{
		// Constants: the sum and the product of as many of them as there are roots.
		{"0 1", "", "0", "0"}, {"0 1", "5", "5", "5"}, {"-2 0 1", "", "0", "0"}, {"-2 0 1", "1", "2", "1"}, {"-2 0 1", "-2/3", "-4/3", "4/9"}, {"1 0 0 5", "-2/3", "-2", "-8/27"}, {"-6 11 -6 1", "2", "6", "8"},
		// z, for monic moduli and others.
		{"0 1", "0 1", "0", "0"}, {"-7 1", "0 1", "7", "7"}, {"1 2", "0 1", "-1/2", "-1/2"}, {"-2 0 1", "0 1", "0", "-2"}, {"3 5 1", "0 1", "-5", "3"}, {"3 5 2", "0 1", "-5/2", "3/2"}, {"7 0 -3 4", "0 1", "3/4", "-7/4"}, {"7 0 -3 -4", "0 1", "-3/4", "7/4"},
		// The roots of (z - 1) (z - 2) (z - 3), and of -2 times it.
		{"-6 11 -6 1", "0 1", "6", "6"}, {"-6 11 -6 1", "0 0 1", "14", "36"}, {"-6 11 -6 1", "-2 1", "0", "0"}, {"-6 11 -6 1", "1 1 1", "23", "273"}, {"12 -22 12 -2", "1 1 1", "23", "273"}, {"12 -22 12 -2", "4 -2", "0", "0"},
		// 1/2 and -1/3.
		{"-1 -1 6", "0 1", "1/6", "-1/6"}, {"-1 -1 6", "0 0 1", "13/36", "1/36"}, {"-1 -1 6", "1 6", "3", "-4"},
		// Larger degrees.
		{"-2 0 1", "0 0 1", "4", "4"}, {"-2 0 1", "0 0 0 1", "0", "-8"}, {"-2 0 1", "1 1 1 1", "6", "-9"}, {"1 0 1", "0 0 0 0 1", "2", "1"}, {"-2 0 1", "-2 0 1", "0", "0"}, {"-7 1", "1 0 0 1", "344", "344"}, {"1 1 1", "0 0 0 0 0 2", "-2", "4"},
	} {
		call := " of (" + x.a + ") modulo (" + x.q + ")"
		mustBeNumber(t, "Trace"+call, quotient.Trace(of(t, x.q), of(t, x.a)), x.trace)
		mustBeNumber(t, "Norm"+call, quotient.Norm(of(t, x.q), of(t, x.a)), x.norm)
	}
}

func TestPower(t *testing.T) {
	for _, x := range []struct {
		q    string
		n    int
		want string
	}{
		// No sums.
		{"-2 0 1", 0, ""}, {"-2 0 1", -1, ""}, {"0 1", 0, ""}, {"-6 11 -6 1", -1 << 62, ""},
		// The root 0: its power with the exponent 0 is 1.
		{"0 1", 1, "1"}, {"0 1", 4, "1 0 0 0"}, {"0 -3", 3, "1 0 0"}, {"0 -1 1", 4, "2 1 1 1"}, {"0 -1 0 1", 6, "3 0 2 0 2 0"},
		// Fewer sums than the degree, as many, and more.
		{"-6 11 -6 1", 1, "3"}, {"-6 11 -6 1", 2, "3 6"}, {"-6 11 -6 1", 3, "3 6 14"}, {"-6 11 -6 1", 4, "3 6 14 36"}, {"-6 11 -6 1", 7, "3 6 14 36 98 276 794"},
		{"-7 1", 4, "1 7 49 343"}, {"-2 0 1", 7, "2 0 4 0 8 0 16"}, {"1 0 1", 6, "2 0 -2 0 2 0"}, {"-1 -1 1", 8, "2 1 3 4 7 11 18 29"}, {"-5 0 0 0 1", 9, "4 0 0 0 20 0 0 0 100"}, {"1 1 1 1 1", 11, "4 -1 -1 -1 -1 4 -1 -1 -1 -1 4"},
		// Not monic: the roots -1/2, and 1/2 and -1/3.
		{"1 2", 4, "1 -1/2 1/4 -1/8"}, {"-3 -6", 4, "1 -1/2 1/4 -1/8"}, {"-1 -1 6", 4, "2 1/6 13/36 19/216"}, {"1/6 1/6 -1", 4, "2 1/6 13/36 19/216"}, {"12 -22 12 -2", 5, "3 6 14 36 98"},
	} {
		got := quotient.Power(of(t, x.q), x.n)
		if text(got) != x.want {
			t.Errorf("Power of (%s) with n = %d is %s, want %s", x.q, x.n, text(got), x.want)
		}
		for _, s := range got {
			if !rational.Valid(s) {
				t.Errorf("Power of (%s) with n = %d has %v", x.q, x.n, s)
			}
		}
	}
}

func TestPowerOfManySums(t *testing.T) {
	got := quotient.Power(of(t, "0 -2 1"), 1000)
	if len(got) != 1000 {
		t.Fatalf("%d sums", len(got))
	}
	// The roots are 0 and 2; exponents of this size are refused by rational.Pow.
	want := rational.Whole(1)
	for i, s := range got {
		if i == 0 {
			mustBeNumber(t, "the first sum", s, "2")
		} else if rational.Cmp(s, want) != 0 {
			t.Fatalf("sum %d is wrong", i)
		}
		want = rational.Add(want, want)
	}
}

func TestMinimal(t *testing.T) {
	for _, x := range []struct{ q, a, want string }{
		// Constants, for moduli of degree 1 and more.
		{"0 1", "", "0 1"}, {"0 1", "5", "-5 1"}, {"-2 0 1", "", "0 1"}, {"-2 0 1", "1", "-1 1"}, {"-2 0 1", "-2/3", "2/3 1"}, {"-6 11 -6 1", "7", "-7 1"}, {"0 -3 0 0 5", "1/2", "-1/2 1"},
		// z has the monic modulus.
		{"-7 1", "0 1", "-7 1"}, {"1 2", "0 1", "1/2 1"}, {"-2 0 1", "0 1", "-2 0 1"}, {"-4 0 -2", "0 1", "2 0 1"}, {"12 -22 12 -2", "0 1", "-6 11 -6 1"}, {"0 -1 0 0 1/3", "0 1", "0 -3 0 0 1"},
		// A value for each root.
		{"-2 0 1", "1 1", "-1 -2 1"}, {"1 0 1", "1/2 3", "37/4 -1 1"}, {"-6 11 -6 1", "-1 2", "-15 23 -9 1"}, {"-2 0 0 1", "0 0 1", "-4 0 0 1"},
		// A value for several roots.
		{"-2 0 1", "0 0 1", "-2 1"}, {"0 -1 0 1", "0 0 1", "0 -1 1"}, {"-6 11 -6 1", "4 -4 1", "0 -1 1"}, {"4 0 -5 0 1", "0 0 1", "4 -5 1"}, {"1 0 0 0 1", "0 0 1", "1 0 1"}, {"-2 0 0 0 1", "0 0 3", "-18 0 1"}, {"-5 0 0 0 0 0 1", "0 0 0 1", "-5 0 1"}, {"-2 0 -1 0 1", "0 0 1", "-2 -1 1"},
		// The values 1 at 0 and 2, and 5 at 1.
		{"0 2 -3 1", "1 8 -4", "5 -6 1"},
		// Not reduced.
		{"-2 0 1", "0 0 0 1", "-8 0 1"}, {"-2 0 1", "-2 0 1", "0 1"}, {"-2 0 1", "1 -2 0 1", "-1 1"}, {"-7 1", "0 0 1", "-49 1"}, {"1 1 1", "0 0 0 0 1", "1 1 1"}, {"0 -1 0 1", "0 0 0 0 0 0 2", "0 -2 1"},
	} {
		mustBe(t, "Minimal of ("+x.a+") modulo ("+x.q+")", quotient.Minimal(of(t, x.q), of(t, x.a)), x.want)
	}
}
