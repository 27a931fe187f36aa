package poly_test

import (
	"slices"
	"strings"
	"testing"

	"quadrature/api"
	"quadrature/integer"
	"quadrature/poly"
	"quadrature/rational"
)

// number returns the rational number with the notation s.
func number(t *testing.T, s string) api.Rat {
	t.Helper()
	c, err := rational.Read(s)
	if err != api.OK {
		t.Fatalf("rational.Read(%q): %v", s, err)
	}
	return c
}

// list returns the numbers that s lists.
func list(t *testing.T, s string) []api.Rat {
	t.Helper()
	var out []api.Rat
	for _, word := range strings.Fields(s) {
		out = append(out, number(t, word))
	}
	return out
}

// of returns the polynomial whose coefficients s lists, that of degree 0 first; s must not end with a zero.
func of(t *testing.T, s string) api.Poly {
	t.Helper()
	p := api.Poly(list(t, s))
	if !isValid(p) {
		t.Fatalf("%q ends with a zero", s)
	}
	return p
}

// isValid reports whether p is valid, without the help of the package that is tested.
func isValid(p api.Poly) bool {
	for _, c := range p {
		if !rational.Valid(c) {
			return false
		}
	}
	return len(p) == 0 || rational.Sign(p[len(p)-1]) != 0
}

// text lists the coefficients of p, that of degree 0 first.
func text(p []api.Rat) string {
	var words []string
	for _, c := range p {
		words = append(words, rational.Text(c))
	}
	return strings.Join(words, " ")
}

// mustBe checks that a result is the polynomial with the coefficients that want lists.
func mustBe(t *testing.T, call string, p api.Poly, want string) {
	t.Helper()
	if !isValid(p) || text(p) != want {
		t.Errorf("%s = %s (valid: %v), want %s", call, text(p), isValid(p), want)
	}
}

// mustBeNumber checks that a result is the number with the notation want.
func mustBeNumber(t *testing.T, call string, c api.Rat, want string) {
	t.Helper()
	if !rational.Valid(c) || rational.Text(c) != want {
		t.Errorf("%s = %v, want %s", call, c, want)
	}
}

// same reports whether a and b have the same coefficients, in the same representation.
func same(a, b api.Poly) bool {
	return slices.EqualFunc(a, b, func(x, y api.Rat) bool {
		return x.Num.Neg == y.Num.Neg && x.Den.Neg == y.Den.Neg && slices.Equal(x.Num.Mag, y.Num.Mag) && slices.Equal(x.Den.Mag, y.Den.Mag)
	})
}

// raw returns n/d as it stands, without taking out common factors.
func raw(n, d int64) api.Rat { return api.Rat{Num: integer.Of(n), Den: integer.Of(d)} }

func TestExamplesOfTheChapter(t *testing.T) {
	q, r, err := poly.DivMod(of(t, "-1 0 0 1"), of(t, "-1 1"))
	mustBe(t, "quotient of x^3 - 1 and x - 1", q, "1 1 1")
	mustBe(t, "remainder of x^3 - 1 and x - 1", r, "")
	if err != api.OK {
		t.Errorf("DivMod: %v", err)
	}
	mustDecompose(t, "0 0 2 2", "1: 1 1; 2: 0 1")
	mustBeNumber(t, "Resultant of x^2 - 2 and x - 1", poly.Resultant(of(t, "-2 0 1"), of(t, "-1 1")), "-1")
}

func TestTrim(t *testing.T) {
	for s, want := range map[string]string{
		"": "", "0": "", "0 0 0": "", "1": "1", "-1/2 3": "-1/2 3", "0 0 5/7": "0 0 5/7", "0 1 0": "0 1", "3 0 2 0 0 0": "3 0 2", "4 0 0 0 0": "4",
	} {
		mustBe(t, "Trim("+s+")", poly.Trim(list(t, s)), want)
	}
	mustBe(t, "Trim(nil)", poly.Trim(nil), "")
}

func TestTrimmedListsAreSafeToAppendTo(t *testing.T) {
	l := list(t, "3 0 2 0 0 0")
	if longer := append(poly.Trim(l), number(t, "7")); text(l) != "3 0 2 0 0 0" || text(longer) != "3 0 2 7" {
		t.Errorf("an append to the result of Trim made %s of the argument", text(l))
	}
}

func TestValid(t *testing.T) {
	for s, want := range map[string]bool{"": true, "1": true, "0 1": true, "-1/2 0 3/7": true, "0": false, "0 0": false, "1 0": false, "1 2/3 0 0": false} {
		if got := poly.Valid(list(t, s)); got != want {
			t.Errorf("Valid(%s) = %v", s, got)
		}
	}
	if !poly.Valid(nil) || !poly.Valid(api.Poly{}) {
		t.Error("the zero polynomial is not valid")
	}
	one := integer.Of(1)
	for _, bad := range []api.Rat{
		{}, raw(1, 0), raw(0, 0), raw(1, -1), raw(-1, -2), raw(0, -1), raw(2, 4), raw(-6, 3), raw(5, 5), raw(0, 2),
		{Num: api.Int{Neg: true}, Den: one}, {Num: api.Int{Mag: []uint32{3, 0}}, Den: one}, {Num: one, Den: api.Int{Mag: []uint32{2, 0}}},
	} {
		good := number(t, "2/3")
		for _, p := range []api.Poly{{bad}, {good, bad}, {bad, good}, {good, bad, good}, {bad, good, good}, {good, good, bad}} {
			if poly.Valid(p) {
				t.Errorf("%v is valid", p)
			}
		}
	}
}

func TestEqual(t *testing.T) {
	different := []string{"", "1", "-1", "2", "1/2", "0 1", "1 1", "0 -1", "0 1/2", "0 0 1", "1 0 1", "0 1 1", "18446744073709551616 1", "18446744073709551617 1", "1/18446744073709551616 1"}
	for i, a := range different {
		for k, b := range different {
			if got := poly.Equal(of(t, a), of(t, b)); got != (i == k) {
				t.Errorf("Equal(%s, %s) = %v", a, b, got)
			}
		}
	}
	if !poly.Equal(nil, api.Poly{}) || !poly.Equal(api.Poly{{Den: integer.Of(1)}, raw(1, 1)}, api.Poly{{Num: api.Int{Mag: []uint32{}}, Den: integer.Of(1)}, raw(1, 1)}) {
		t.Error("nil and empty slices make a difference")
	}
}

func TestSumsAndDifferences(t *testing.T) {
	for _, x := range []struct{ a, b, sum, difference string }{
		{"", "", "", ""},
		{"1 2", "", "1 2", "1 2"},
		{"", "1 -2", "1 -2", "-1 2"},
		{"1", "1", "2", ""},
		{"1 2 3", "-1 -2 -3", "", "2 4 6"},
		{"1 2 3", "1 2 3", "2 4 6", ""},
		{"1 2 3", "5 0 -3", "6 2", "-4 2 6"},
		{"1 2 3", "0 2 3", "1 4 6", "1"},
		{"1 0 0 1/2", "0 0 0 -1/2", "1", "1 0 0 1"},
		{"0 0 1", "1", "1 0 1", "-1 0 1"},
		{"1", "0 0 1", "1 0 1", "1 0 -1"},
		{"1/2 1/3", "1/3 1/6", "5/6 1/2", "1/6 1/6"},
	} {
		a, b := of(t, x.a), of(t, x.b)
		mustBe(t, "("+x.a+") + ("+x.b+")", poly.Add(a, b), x.sum)
		mustBe(t, "("+x.a+") - ("+x.b+")", poly.Sub(a, b), x.difference)
	}
}

func TestProducts(t *testing.T) {
	for _, x := range []struct{ a, b, product string }{
		{"", "", ""}, {"1 2", "", ""}, {"", "1 2", ""},
		{"1", "1 2", "1 2"}, {"1 2", "1", "1 2"}, {"-2/3", "3/2 0 6", "-1 0 -4"}, {"3", "-1/3", "-1"},
		{"1 1", "1 1", "1 2 1"}, {"1 1", "-1 1", "-1 0 1"}, {"1 1 1", "-1 1", "-1 0 0 1"},
		{"0 0 1", "0 1", "0 0 0 1"}, {"0 0 2", "0 1/2 0 1", "0 0 0 1 0 2"},
		{"1/2 1/3", "1/2 -1/3", "1/4 0 -1/9"},
		{"4294967296 1", "-4294967296 1", "-18446744073709551616 0 1"},
	} {
		mustBe(t, "("+x.a+") ("+x.b+")", poly.Mul(of(t, x.a), of(t, x.b)), x.product)
	}
}

func TestScale(t *testing.T) {
	for _, x := range []struct{ a, c, scaled string }{
		{"", "0", ""}, {"", "5", ""}, {"1 2 3", "0", ""}, {"7", "0", ""},
		{"1 0 -3/4", "1", "1 0 -3/4"}, {"1 0 -3/4", "-1", "-1 0 3/4"}, {"2 0 -3/4 1", "2/3", "4/3 0 -1/2 2/3"}, {"5", "1/5", "1"},
	} {
		mustBe(t, x.c+" ("+x.a+")", poly.Scale(of(t, x.a), number(t, x.c)), x.scaled)
	}
}

func TestMonic(t *testing.T) {
	for a, want := range map[string]string{
		"": "", "1": "1", "-7": "1", "2/3": "1", "0 1": "0 1", "3 1": "3 1", "1 2": "1/2 1", "1 -1": "-1 1", "6 0 -3": "-2 0 1", "1 1 1/2": "2 2 1", "0 3/4 -2/3": "0 -9/8 1",
	} {
		mustBe(t, "Monic("+a+")", poly.Monic(of(t, a)), want)
	}
}
