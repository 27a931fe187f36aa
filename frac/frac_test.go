package frac_test

import (
	"math"
	"strconv"
	"testing"

	"quadrature/api"
	"quadrature/frac"
	"quadrature/integer"
	"quadrature/mpoly"
	"quadrature/rational"
)

func TestExamplesOfTheChapter(t *testing.T) {
	f, err := frac.Of(poly(t, "x^2 - 1"), poly(t, "2 x - 2"))
	mustReturn(t, "Of", f, err, plain(t, "1/2 x + 1/2"))
	mustBe(t, "Partial", frac.Partial(plain(t, "1 // x"), 0), plain(t, "-1 // x^2"))
	f, err = frac.Subst(plain(t, "1 // x - 1"), 0, plain(t, "y + 1"))
	mustReturn(t, "Subst", f, err, plain(t, "1 // y"))
}

func TestOf(t *testing.T) {
	for s, want := range map[string]string{
		// Numbers.
		"1": "1", "0": "0", "6 // 4": "3/2", "-6 // 4": "-3/2", "6 // -4": "-3/2", "-2/3 // -1/6": "4", "5 // 1/5": "25",
		// The numerator 0.
		"0 // 7": "0", "0 // -2/3": "0", "0 // x": "0", "0 // 3 y^2 - x": "0", "0 // w z y x": "0",
		// Polynomials.
		"x": "x", "x // 1": "x", "x // 2": "1/2 x", "-2 y + 4 // 3": "-2/3 y + 4/3", "(x + 1)^2 // x + 1": "x + 1", "y^2 - x^2 // 2 y + 2 x": "1/2 y - 1/2 x",
		// Already in lowest terms.
		"1 // x": "1 // x", "x // y": "x // y", "x + 1 // x + 2": "x + 1 // x + 2", "3/7 // w^2 + x": "3/7 // w^2 + x", "x // x^2 + 1": "x // x^2 + 1",
		// A denominator whose first coefficient is negative, greater than 1 or a fraction.
		"1 // -x": "-1 // x", "x // -y + 1": "-x // y - 1", "1 // 2 x": "1/2 // x", "x // 2 y + 4": "1/2 x // y + 2", "3 // 1/2 x - 1": "6 // x - 2", "x + 1 // -2/3 y^2 + x": "-3/2 x - 3/2 // y^2 - 3/2 x", "2 // x - y": "-2 // y - x", "1/2 // 1/3 x + 1/5": "3/2 // x + 3/5",
		// Common factors in one variable.
		"x // x": "1", "-x // 2 x": "-1/2", "x^3 // x": "x^2", "x // x^3": "1 // x^2", "x^2 - 1 // 2 x - 2": "1/2 x + 1/2", "x - 1 // x^2 - 1": "1 // x + 1", "x^2 + 2 x + 1 // x^2 - 1": "x + 1 // x - 1", "(x + 1)^3 (x - 2) // 3 (x + 1)^2 (x - 2)^5": "1/3 x + 1/3 // (x - 2)^4", "x^100 - 1 // x^50 + 1": "x^50 - 1", "x^1000000000 // x^999999999 y": "x // y",
		// Common factors in several variables.
		"x y // x z": "y // z", "x y z w // w^2 z^2 y^2 x^2": "1 // w z y x", "x^2 - y^2 // x y + y^2": "x - y // y", "(x y + 1)(z + w) // (x y + 1)(z - w)": "-z - w // w - z", "(2 y + x)(x + 1) // (4 y + 2 x) z": "1/2 x + 1/2 // z", "(y + x)^2 (w - 1) // (w - 1)^2 (y + x)": "y + x // w - 1", "(w + z + y + x)^3 // 5 (w + z + y + x)^2 (w z + 1)": "1/5 (w + z + y + x) // w z + 1", "(x + 1)(y + 1)(z + 1) // (z + 1)(y + 1)(x + 1)": "1",
		// Common factors in one variable of polynomials in several.
		"(x + 1)(y + z) // (x + 1)(y - w)": "-y - z // w - y", "w^2 y // w y^2 + w": "w y // y^2 + 1",
	} {
		f, err := frac.Of(pair(t, s))
		mustReturn(t, "Of "+s, f, err, plain(t, want))
	}
}

func TestOfWithDenominatorZero(t *testing.T) {
	for _, s := range []string{"0", "1", "-2/3", "x", "(w + z)^2 - 1"} {
		for _, d := range []api.MPoly{nil, {}} {
			f, err := frac.Of(poly(t, s), d)
			mustFail(t, "Of "+s+" and 0", f, err, api.ErrZero)
		}
	}
}

func TestPolynomialsNumbersAndVariables(t *testing.T) {
	for _, s := range []string{"0", "1", "-2/3", "2 x + 4", "w^2 z - 1/2 y x"} {
		mustBe(t, "Poly("+s+")", frac.Poly(poly(t, s)), plain(t, s))
	}
	for _, s := range []string{"0", "1", "-1", "12", "-2/3", "1/18446744073709551616"} {
		mustBe(t, "Const("+s+")", frac.Const(number(t, s)), plain(t, s))
	}
	for v := range 4 {
		mustBe(t, "Var("+strconv.Itoa(v)+")", frac.Var(v), plain(t, names[v:v+1]))
	}
}

func TestValid(t *testing.T) {
	for _, s := range []string{"0", "1", "-7/2", "x", "3 x y - 2 // 1", "1 // x", "-2 // x", "x // y + 2 x", "1/2 x // y^2 - 1/3 x", "x + 1 // x - 1", "w // z + 2", "(y + x)(z + 1) // (y - x) z"} {
		if !frac.Valid(plain(t, s)) {
			t.Errorf("%s is not valid", s)
		}
	}
	for _, s := range []string{
		// The denominator 0.
		"0 // 0", "1 // 0", "x + y // 0",
		// A first coefficient of D other than 1. That of the highest variable counts.
		"1 // -1", "1 // 2", "x // 1/2", "1 // -x", "x // 2 y + x", "x // -y + x", "0 // 2", "0 // -1", "1 // -y + 1", "x // 2/3 w - z",
		// Common factors.
		"x // x", "x^2 // x", "y x // z x", "x^2 - 1 // x + 1", "(y + x)(x + 2) // (y + x)(x + 3)", "2 x + 2 // x + 1", "(w z + 1) x // (w z + 1)^2",
		// The numerator 0.
		"0 // x", "0 // y + x", "0 // w^2",
	} {
		if frac.Valid(plain(t, s)) {
			t.Errorf("%s is valid", s)
		}
	}
	if frac.Valid(api.Frac{}) {
		t.Error("the zero value is valid")
	}
}

// raw returns n/d as it stands.
func raw(n, d int64) api.Rat { return api.Rat{Num: integer.Of(n), Den: integer.Of(d)} }

func TestFractionsOfInvalidPolynomialsAreNotValid(t *testing.T) {
	one, x := rational.Whole(1), [4]int{1}
	good := api.MPoly{{E: x, C: one}, {C: one}}
	for name, p := range map[string]api.MPoly{
		"terms in the wrong order":    {{C: one}, {E: x, C: one}},
		"terms with equal exponents":  {{E: x, C: one}, {E: x, C: one}},
		"a coefficient 0":             {{E: x, C: rational.Whole(0)}},
		"a coefficient 0 at the end":  {{E: x, C: one}, {C: rational.Whole(0)}},
		"a negative exponent":         {{E: x, C: one}, {E: [4]int{-1}, C: one}},
		"a number not in low terms":   {{E: x, C: one}, {C: raw(2, 4)}},
		"a negative denominator":      {{E: x, C: one}, {C: raw(1, -2)}},
		"a denominator 0":             {{E: x, C: one}, {C: raw(1, 0)}},
		"a number without a value":    {{E: x, C: one}, {}},
		"an integer with a zero limb": {{E: x, C: one}, {C: api.Rat{Num: api.Int{Mag: []uint32{1, 0}}, Den: integer.Of(1)}}},
		"1 as 2/2":                    {{E: x, C: raw(2, 2)}, {C: one}},
	} {
		if frac.Valid(api.Frac{N: p, D: good}) || frac.Valid(api.Frac{N: p, D: poly(t, "1")}) {
			t.Errorf("%s: the numerator is valid", name)
		}
		if frac.Valid(api.Frac{N: good, D: p}) || frac.Valid(api.Frac{N: poly(t, "1"), D: p}) || frac.Valid(api.Frac{D: p}) {
			t.Errorf("%s: the denominator is valid", name)
		}
	}
}

func TestEqualAndZero(t *testing.T) {
	all := []string{"0", "1", "-1", "1/2", "x", "-x", "y", "x + 1", "1 // x", "-1 // x", "1 // y", "1 // x + 1", "2 // x", "x // y", "y // x", "x // y + 1", "x + 1 // y", "x // w", "1 // x^2", "18446744073709551616", "18446744073709551617"}
	for i, s := range all {
		for k, u := range all {
			if frac.Equal(plain(t, s), plain(t, u)) != (i == k) {
				t.Errorf("Equal of %s and %s is %v", s, u, i != k)
			}
		}
		if frac.Zero(plain(t, s)) != (i == 0) {
			t.Errorf("Zero of %s is %v", s, i != 0)
		}
	}
	empty := api.Frac{N: api.MPoly{}, D: poly(t, "1")}
	if !frac.Zero(empty) || !frac.Equal(empty, frac.Const(rational.Whole(0))) {
		t.Error("0 with an empty list is not 0")
	}
}

func TestNeg(t *testing.T) {
	for s, want := range map[string]string{"0": "0", "1": "-1", "-2/3": "2/3", "x": "-x", "y - x": "-y + x", "1 // x": "-1 // x", "-1/2 x + y // w - z": "1/2 x - y // w - z"} {
		mustBe(t, "Neg of "+s, frac.Neg(of(t, s)), of(t, want))
	}
}

func TestAddAndSub(t *testing.T) {
	for _, x := range []struct{ a, b, sum, difference string }{
		// Numbers and polynomials.
		{"0", "0", "0", "0"}, {"1", "2", "3", "-1"}, {"1/2", "1/3", "5/6", "1/6"}, {"0", "x", "x", "-x"}, {"x", "0", "x", "x"}, {"x", "x", "2 x", "0"}, {"x", "1", "x + 1", "x - 1"}, {"y + x", "y - x", "2 y", "2 x"},
		// With polynomials.
		{"1 // x", "0", "1 // x", "1 // x"}, {"0", "1 // x", "1 // x", "-1 // x"}, {"1 // x", "1", "x + 1 // x", "-x + 1 // x"}, {"1 // x", "x", "x^2 + 1 // x", "-x^2 + 1 // x"}, {"y", "1 // y + 1", "y^2 + y + 1 // y + 1", "y^2 + y - 1 // y + 1"},
		// Denominators without common factors.
		{"1 // x", "1 // y", "y + x // y x", "y - x // y x"}, {"1 // x", "1 // x + 1", "2 x + 1 // x^2 + x", "1 // x^2 + x"}, {"x // y", "z // w", "x w + y z // w y", "x w - y z // w y"}, {"1 // x - 1", "1 // x + 1", "2 x // x^2 - 1", "2 // x^2 - 1"},
		// Equal denominators, also where terms cancel.
		{"1 // x", "2 // x", "3 // x", "-1 // x"}, {"1 // x", "1 // x", "2 // x", "0"}, {"1 // x", "-1 // x", "0", "2 // x"}, {"x // y", "1/2 // y", "x + 1/2 // y", "x - 1/2 // y"}, {"x // x + 1", "1 // x + 1", "1", "x - 1 // x + 1"}, {"x // x - 1", "1 // x - 1", "x + 1 // x - 1", "1"}, {"x^2 // x + y", "y^2 // x + y", "x^2 + y^2 // y + x", "x - y"}, {"2 x // x + 1", "2 // x + 1", "2", "2 x - 2 // x + 1"},
		// Common factors of the denominators that cancel in part, or completely.
		{"1 // x (x + 1)", "1 // x", "x + 2 // x (x + 1)", "-1 // x + 1"}, {"1 // x (x + 1)", "1 // x + 1", "1 // x", "-x + 1 // x (x + 1)"}, {"1 // x^2", "1 // x", "x + 1 // x^2", "-x + 1 // x^2"}, {"1 // (x - 1)(x - 2)", "1 // (x - 2)(x - 3)", "2 // (x - 1)(x - 3)", "-2 // (x - 1)(x - 2)(x - 3)"}, {"1 // (y + x)(y - x)", "1 // (y + x) y", "2 y - x // y (y + x)(y - x)", "x // y (y - x)(y + x)"}, {"y // x (y + x)", "1 // y + x", "1 // x", "y - x // x (y + x)"}, {"x // (w + 1)^2 z", "x // (w + 1) z^2", "x z + x w + x // z^2 (w + 1)^2", "x z - x w - x // z^2 (w + 1)^2"},
		{"1/2 // x - 1", "1/2 // x + 1", "x // x^2 - 1", "1 // x^2 - 1"}, {"1 // (x + 1)^2", "x // (x + 1)^2", "1 // x + 1", "-x + 1 // (x + 1)^2"},
	} {
		a, b := of(t, x.a), of(t, x.b)
		call := text(a, b)
		mustBe(t, "Add of "+call, frac.Add(a, b), of(t, x.sum))
		mustBe(t, "Add, exchanged, of "+call, frac.Add(b, a), of(t, x.sum))
		mustBe(t, "Sub of "+call, frac.Sub(a, b), of(t, x.difference))
		mustBe(t, "Sub, exchanged, of "+call, frac.Neg(frac.Sub(b, a)), of(t, x.difference))
	}
}

func TestMulAndDiv(t *testing.T) {
	for _, x := range []struct{ a, b, product, quotient string }{
		// Numbers and polynomials.
		{"1", "1", "1", "1"}, {"2/3", "-3/4", "-1/2", "-8/9"}, {"0", "1", "0", "0"}, {"0", "x", "0", "0"}, {"0", "y // x + 1", "0", "0"}, {"x", "1", "x", "x"}, {"x", "2", "2 x", "1/2 x"}, {"x", "x", "x^2", "1"}, {"x", "y", "x y", "x // y"}, {"x + 1", "x - 1", "x^2 - 1", "x + 1 // x - 1"}, {"x^2 - 1", "2 x - 2", "(x^2 - 1)(2 x - 2)", "1/2 x + 1/2"}, {"1", "-2 y + x", "-2 y + x", "-1/2 // y - 1/2 x"},
		// Nothing cancels.
		{"1 // x", "1 // y", "1 // x y", "y // x"}, {"x // y", "z // w", "x z // w y", "x w // y z"}, {"1 // x", "1 // x", "1 // x^2", "1"}, {"x + 1 // y", "x + 2 // z", "(x + 1)(x + 2) // z y", "(x + 1) z // (x + 2) y"},
		// Factors cancel.
		{"x // y", "y // x", "1", "x^2 // y^2"}, {"1 // x", "x", "1", "1 // x^2"}, {"x", "1 // x", "1", "x^2"}, {"1 // x", "x^2", "x", "1 // x^3"}, {"2 // x", "3 x", "6", "2/3 // x^2"}, {"x + 1 // x - 1", "x - 1 // x + 2", "x + 1 // x + 2", "(x + 1)(x + 2) // (x - 1)^2"}, {"x // y + 1", "y + 1 // x z", "1 // z", "x^2 z // (y + 1)^2"}, {"(y + x) z // w", "w // (y + x) x", "z // x", "(y + x)^2 z x // w^2"}, {"x^2 // (y + 1)^3", "(y + 1)^2 // x", "x // y + 1", "x^3 // (y + 1)^5"}, {"y^2 - x^2 // w", "1 // y - x", "y + x // w", "(y - x)^2 (y + x) // w"},
		{"x // -2 + y", "3 y - 6", "3 x", "1/3 x // (y - 2)^2"}, {"1/2 x // y", "-1/3 y // x", "-1/6", "-3/2 x^2 // y^2"}, {"(w + 1)(z + 1) // (y + 1)(x + 1)", "(x + 1)(y + 1) // (z + 1)(w + 1)", "1", "(w + 1)^2 (z + 1)^2 // (y + 1)^2 (x + 1)^2"},
	} {
		a, b := of(t, x.a), of(t, x.b)
		mustBe(t, "Mul of "+text(a, b), frac.Mul(a, b), of(t, x.product))
		mustBe(t, "Mul of "+text(b, a), frac.Mul(b, a), of(t, x.product))
		f, err := frac.Div(a, b)
		mustReturn(t, "Div of "+text(a, b), f, err, of(t, x.quotient))
		mustBe(t, "Mul of "+text(a)+" and 0", frac.Mul(a, plain(t, "0")), plain(t, "0"))
		for _, zero := range []api.MPoly{nil, {}} {
			f, err = frac.Div(a, frac.Poly(zero))
			mustFail(t, "Div of "+text(a)+" by 0", f, err, api.ErrZero)
		}
	}
}

func TestPow(t *testing.T) {
	for _, x := range []struct {
		a    string
		n    int
		want string
	}{
		{"0", 0, "1"}, {"0", 1, "0"}, {"0", 2, "0"}, {"0", 256, "0"}, {"1", -256, "1"}, {"1", 256, "1"}, {"-1", 255, "-1"}, {"-1", -256, "1"}, {"2/3", 3, "8/27"}, {"2/3", -3, "27/8"}, {"-2", -1, "-1/2"},
		{"x", 0, "1"}, {"x", 1, "x"}, {"x", -1, "1 // x"}, {"x", 256, "x^256"}, {"x", -256, "1 // x^256"}, {"-3 x", 2, "9 x^2"}, {"-3 x", -3, "-1/27 // x^3"}, {"x + 1", 3, "(x + 1)^3"}, {"x - y", -2, "1 // (y - x)^2"}, {"x - y", -3, "-1 // (y - x)^3"}, {"2 y + x", -2, "1/4 // (y + 1/2 x)^2"},
		{"1 // x", 0, "1"}, {"1 // x", 1, "1 // x"}, {"1 // x", -1, "x"}, {"1 // x", 256, "1 // x^256"}, {"1 // x", -256, "x^256"}, {"2 x // y", 3, "8 x^3 // y^3"}, {"2 x // y", -3, "1/8 y^3 // x^3"}, {"x + 1 // y + 2", 2, "(x + 1)^2 // (y + 2)^2"}, {"x + 1 // y + 2", -2, "(y + 2)^2 // (x + 1)^2"}, {"-x + 1 // w z", 1, "-x + 1 // w z"}, {"-x + 1 // w z", -1, "-w z // x - 1"},
		{"x + 1 // x - 1", 256, "(x + 1)^256 // (x - 1)^256"}, {"x + 1 // x - 1", -256, "(x - 1)^256 // (x + 1)^256"},
	} {
		f, err := frac.Pow(of(t, x.a), x.n)
		mustReturn(t, "Pow of "+x.a+" by "+strconv.Itoa(x.n), f, err, of(t, x.want))
	}
}

func TestPowRefuses(t *testing.T) {
	for _, s := range []string{"0", "1", "x", "1 // x", "y + x // w - 1"} {
		for _, n := range []int{-257, 257, -1000000000, 1000000000, math.MinInt, math.MaxInt} {
			f, err := frac.Pow(plain(t, s), n)
			mustFail(t, "Pow of "+s+" by "+strconv.Itoa(n), f, err, api.ErrArg)
		}
	}
	for _, zero := range []api.MPoly{nil, {}} {
		for _, n := range []int{-1, -2, -255, -256} {
			f, err := frac.Pow(frac.Poly(zero), n)
			mustFail(t, "Pow of 0 by "+strconv.Itoa(n), f, err, api.ErrZero)
		}
	}
}

func TestPartial(t *testing.T) {
	for _, x := range []struct {
		a    string
		v    int
		want string
	}{
		// Numbers and polynomials.
		{"0", 0, "0"}, {"1", 3, "0"}, {"-2/3", 1, "0"}, {"x", 0, "1"}, {"x^2", 0, "2 x"}, {"1/3 x^3 y - x + z", 0, "x^2 y - 1"}, {"1/3 x^3 y - x + z", 1, "1/3 x^3"}, {"w^2 x", 3, "2 w x"}, {"x^1000000000", 0, "1000000000 x^999999999"},
		// Variables that do not occur.
		{"x", 1, "0"}, {"x^2 + y", 2, "0"}, {"1 // x", 1, "0"}, {"x // y + 1", 3, "0"}, {"z + y // w x", 1, "1 // w x"},
		// Quotients.
		{"1 // x", 0, "-1 // x^2"}, {"1 // x^2", 0, "-2 // x^3"}, {"1 // x^5", 0, "-5 // x^6"}, {"x // y", 0, "1 // y"}, {"x // y", 1, "-x // y^2"}, {"x + 1 // x - 1", 0, "-2 // (x - 1)^2"}, {"1 // x^2 + 1", 0, "-2 x // (x^2 + 1)^2"}, {"1 // y - x", 0, "1 // (y - x)^2"}, {"1 // y - x", 1, "-1 // (y - x)^2"}, {"x // y + x", 0, "y // (y + x)^2"}, {"x y // z + w", 3, "-x y // (w + z)^2"}, {"x^2 // x + 1", 0, "x^2 + 2 x // (x + 1)^2"},
		// Multiple factors of the denominator.
		{"x // (x + 1)^2", 0, "-x + 1 // (x + 1)^3"}, {"1 // x (x + 1)^2", 0, "-3 x - 1 // x^2 (x + 1)^3"}, {"1 // (x - y)^2 (x + y)", 0, "-3 x - y // (x - y)^3 (x + y)^2"}, {"y // x^3 (y + 1)^2", 1, "-y + 1 // x^3 (y + 1)^3"}, {"y // x^3 (y + 1)^2", 0, "-3 y // x^4 (y + 1)^2"}, {"1 // (x^2 + 1)^3", 0, "-6 x // (x^2 + 1)^4"},
		// Common factors afterwards: they do not have the variable.
		{"x y + 1 // y", 0, "1"}, {"x^2 y + 1 // y^2", 0, "2 x // y"}, {"x y + 1 // y (x + 1)", 0, "y - 1 // y (x + 1)^2"}, {"x^2 (y + 1) + z // (y + 1)^2 z", 0, "2 x // (y + 1) z"}, {"x z + w // z w", 0, "1 // w"}, {"x + y // (x + 2 y) y", 0, "1 // (x + 2 y)^2"}, {"x + y // (x + 2 y) y^2", 0, "1 // (x + 2 y)^2 y"}, {"x^2 y^3 + 1 // y^3 z", 0, "2 x // z"},
	} {
		mustBe(t, "Partial of "+x.a+" by "+strconv.Itoa(x.v), frac.Partial(of(t, x.a), x.v), of(t, x.want))
	}
}

func TestSubst(t *testing.T) {
	for _, x := range []struct {
		a    string
		v    int
		b    string
		want string
	}{
		// Without the variable.
		{"0", 0, "x", "0"}, {"-2/3", 1, "1 // x", "-2/3"}, {"x", 1, "1 // x", "x"}, {"1 // x", 1, "x", "1 // x"}, {"x // y + 1", 3, "0", "x // y + 1"}, {"1 // x - 1", 1, "1", "1 // x - 1"},
		// The variable itself.
		{"x", 0, "x", "x"}, {"1 // x", 0, "x", "1 // x"}, {"x + 1 // y - x", 1, "y", "x + 1 // y - x"}, {"w^2 // w z + 1", 3, "w", "w^2 // w z + 1"},
		// Polynomials.
		{"1 // x - 1", 0, "y + 1", "1 // y"}, {"x^2 + x", 0, "y - 1", "y^2 - y"}, {"x^2 - y // x + y", 1, "z^2", "x^2 - z^2 // z^2 + x"}, {"1 // x", 0, "-2 y", "-1/2 // y"}, {"x // y", 1, "-3 z + 1", "-1/3 x // z - 1/3"}, {"x y // x + 1", 0, "w^3", "y w^3 // w^3 + 1"}, {"x^1000000000 // x + 1", 0, "y^2", "y^2000000000 // y^2 + 1"},
		// Polynomials and fractions that contain the variable.
		{"x", 0, "x + 1", "x + 1"}, {"1 // x", 0, "x + 1", "1 // x + 1"}, {"x^2 // x + 1", 0, "x - 1", "x^2 - 2 x + 1 // x"}, {"x + y // x - y", 0, "y x", "x + 1 // x - 1"}, {"x", 0, "1 // x", "1 // x"}, {"x + 1 // x", 0, "1 // x", "x + 1"}, {"x^2 + 1 // x", 0, "1 // x", "x^2 + 1 // x"}, {"1 // x - 1", 0, "x // x - 1", "x - 1"}, {"x + 1 // x - 1", 0, "x + 1 // x - 1", "x"}, {"y // x", 1, "x y // y + 1", "y // y + 1"},
		// Fractions.
		{"x", 0, "1 // y", "1 // y"}, {"x^3", 0, "1 // y", "1 // y^3"}, {"1 // x", 0, "1 // y", "y"}, {"1 // x^3", 0, "2 y // z", "1/8 z^3 // y^3"}, {"x + 1", 0, "1 // y", "y + 1 // y"}, {"1 // x + 1", 0, "1 // y", "y // y + 1"}, {"x^2 + x + 1", 0, "z // y", "z^2 + z y + y^2 // y^2"}, {"x^2 + z // x - z", 0, "1 // y + 1", "z (y + 1)^2 + 1 // (y + 1)(1 - z (y + 1))"}, {"x // x^3 + 1", 0, "1 // y", "y^2 // y^3 + 1"}, {"x^3 + 1 // x", 0, "1 // y", "y^3 + 1 // y^2"}, {"x^7 + y x^2 + 3", 0, "1 // z", "3 z^7 + y z^5 + 1 // z^7"}, {"x + y + z", 2, "x - y // w", "(x + y) w + x - y // w"}, {"x^2 - 2 // x^2 + 2", 0, "y + 1 // y - 1", "y^2 - 6 y + 1 // -3 y^2 + 2 y - 3"},
		{"x^1000000000 + y", 0, "1 // z", "y z^1000000000 + 1 // z^1000000000"}, {"1 // x^4611686018427387904", 0, "1 // z", "z^4611686018427387904"}, {"x^4611686018427387904 - 1", 0, "1 // z", "-z^4611686018427387904 + 1 // z^4611686018427387904"},
		// Common factors afterwards.
		{"x // y", 0, "y z", "z"}, {"x // y", 1, "x^2 z", "1 // z x"}, {"x - 1 // y - 1", 0, "y^2", "y + 1"}, {"x + y // x - z", 0, "y", "2 y // y - z"}, {"x^2 - y^2 // z", 2, "x + y", "x - y"}, {"x y + 1 // y", 0, "-1 // y", "0"}, {"x - 1 // y", 0, "y + 1 // 2 y + 1", "-1 // 2 y + 1"}, {"y // x y + z", 0, "z // w", "y w // z y + z w"}, {"y x^2 + z // w", 0, "1 // y", "z y + 1 // y w"}, {"y x + z // w", 0, "1 // y", "z + 1 // w"}, {"y x + z y // y^2 x + 1", 0, "1 // y", "z y + 1 // y + 1"},
		// A factor that would become zero has been cancelled before.
		{"x // x^2 - x y", 0, "0", "-1 // y"}, {"x - y // x^2 - y^2", 0, "y", "1/2 // y"},
		// The numerator becomes zero.
		{"x", 0, "0", "0"}, {"x - y // x + y", 0, "y", "0"}, {"x y - 1 // z", 1, "1 // x", "0"}, {"x^2 y - z^2 // w + x", 0, "0", "-z^2 // w"},
	} {
		f, err := frac.Subst(of(t, x.a), x.v, of(t, x.b))
		mustReturn(t, "Subst of "+x.a+" by "+strconv.Itoa(x.v)+" at "+x.b, f, err, of(t, x.want))
	}
}

func TestSubstWithDenominatorZero(t *testing.T) {
	for _, x := range []struct {
		a string
		v int
		b string
	}{
		{"1 // x", 0, "0"}, {"y // x", 0, "0"}, {"1 // x - 1", 0, "1"}, {"x // x - y", 0, "y"}, {"x // x - y", 1, "x"}, {"1 // y^2 - x^2", 1, "-x"}, {"1 // x y - 1", 0, "1 // y"}, {"z + x // x y - 1", 1, "1 // x"}, {"1 // z x - y", 0, "y // z"}, {"1 // (z x - y)(x + 1)", 0, "y // z"}, {"x // w - z^2", 3, "z^2"}, {"1 // x (y + 1) - z", 0, "z // y + 1"}, {"1 // 2 x - 1", 0, "1/2"}, {"x^3 + z // x^2 y^2 - 2 x y w + w^2", 0, "w // y"},
	} {
		f, err := frac.Subst(of(t, x.a), x.v, of(t, x.b))
		mustFail(t, "Subst of "+x.a+" by "+strconv.Itoa(x.v)+" at "+x.b, f, err, api.ErrZero)
	}
}

func TestEval(t *testing.T) {
	for _, x := range []struct {
		a    string
		v    int
		c    string
		want string
	}{
		{"0", 0, "5", "0"}, {"-2/3", 1, "0", "-2/3"}, {"x", 0, "0", "0"}, {"x", 0, "-2/3", "-2/3"}, {"x", 1, "7", "x"}, {"x^2 + 1 // x - 1", 0, "3", "5"}, {"1 // x", 0, "2", "1/2"}, {"1 // x", 0, "-2/3", "-3/2"}, {"1 // x", 1, "0", "1 // x"}, {"x // y", 1, "1/2", "2 x"}, {"x // y", 0, "1/2", "1/2 // y"}, {"x + y // x - y", 0, "0", "-1"}, {"x + y // x - y", 1, "1", "x + 1 // x - 1"}, {"w z + 1 // w - z", 3, "-1", "z - 1 // z + 1"},
		// Common factors afterwards.
		{"x + 1 // y x + 1", 1, "1", "1"}, {"x^2 - y // x + z", 2, "1", "x^2 - y // x + 1"}, {"x^2 - y^2 // x + z y", 2, "1", "x - y"}, {"x y + z // x y", 2, "0", "1"}, {"z x // w y + x", 3, "0", "z"},
		{"x^1000000000 // x + 1", 0, "1", "1/2"}, {"x^4611686018427387904 // x + 1", 0, "0", "0"},
	} {
		f, err := frac.Eval(of(t, x.a), x.v, number(t, x.c))
		mustReturn(t, "Eval of "+x.a+" by "+strconv.Itoa(x.v)+" at "+x.c, f, err, of(t, x.want))
	}
	for _, x := range []struct {
		a string
		v int
		c string
	}{{"1 // x", 0, "0"}, {"x + 1 // x - 1", 0, "1"}, {"y // 3 x + 2", 0, "-2/3"}, {"1 // x y", 1, "0"}, {"z // w^2 - 4", 3, "-2"}, {"y // x z - 2 z", 0, "2"}} {
		f, err := frac.Eval(of(t, x.a), x.v, number(t, x.c))
		mustFail(t, "Eval of "+x.a+" by "+strconv.Itoa(x.v)+" at "+x.c, f, err, api.ErrZero)
	}
}

func TestTop(t *testing.T) {
	for s, want := range map[string]int{
		"0": -1, "1": -1, "-2/3": -1, "x": 0, "y": 1, "z": 2, "w": 3, "x^2 - 7 x": 0, "y + x": 1, "x^9 y": 1, "x + y + z": 2, "x w + 1": 3,
		"1 // x": 0, "1 // y": 1, "-1/2 // z": 2, "2 // w": 3, "1 // x + y": 1, "1 // z x^5 + 1": 2,
		// In one part only.
		"w // x": 3, "x // w": 3, "y // x": 1, "x // y": 1, "x + 1 // x + z": 2, "x + z // x + 1": 2, "y^2 + x // y - 1": 1, "y // x w + z": 3,
	} {
		if v := frac.Top(plain(t, s)); v != want {
			t.Errorf("Top of %s is %d, want %d", s, v, want)
		}
	}
	if v := frac.Top(api.Frac{N: api.MPoly{}, D: mpoly.Const(rational.Whole(1))}); v != -1 {
		t.Errorf("Top of 0 is %d", v)
	}
}
