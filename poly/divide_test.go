package poly_test

import (
	"testing"

	"quadrature/api"
	"quadrature/poly"
	"quadrature/rational"
)

func TestDivMod(t *testing.T) {
	for _, x := range []struct{ a, b, q, r string }{
		{"", "1", "", ""}, {"", "2 0 3", "", ""},
		{"6 -4", "2", "3 -2", ""}, {"1 0 5", "-3/2", "-2/3 0 -10/3", ""}, {"7", "2", "7/2", ""},
		{"1 2", "0 0 1", "", "1 2"}, {"5", "1 1", "", "5"}, {"1 2 3", "0 0 0 -2", "", "1 2 3"},
		{"-1 0 0 1", "-1 1", "1 1 1", ""}, {"1 2 1", "1 1", "1 1", ""}, {"0 0 0 4", "0 2", "0 0 2", ""}, {"1 1", "1 1", "1", ""}, {"1 1", "2 2", "1/2", ""},
		{"1 0 0 1", "-1 1", "1 1 1", "2"}, {"1 0 1", "1 2", "-1/4 1/2", "5/4"}, {"0 0 0 0 1", "1 0 1", "-1 0 1", "1"}, {"1 1 1", "0 0 3", "1/3", "1 1"},
		{"1 2 3 4 5", "0 1 1", "4 -1 5", "1 -2"}, {"1/2 1/3 1/4", "1/5 1/6", "1/5 3/2", "23/50"},
		{"0 0 0 0 0 0 1", "-1 0 0 1", "1 0 0 1", "1"},
	} {
		q, r, err := poly.DivMod(of(t, x.a), of(t, x.b))
		if err != api.OK {
			t.Errorf("DivMod(%s, %s): %v", x.a, x.b, err)
		}
		mustBe(t, "quotient of ("+x.a+") and ("+x.b+")", q, x.q)
		mustBe(t, "remainder of ("+x.a+") and ("+x.b+")", r, x.r)
	}
}

func TestDivisionByZero(t *testing.T) {
	for _, a := range []string{"", "1", "-1/2 3", "0 0 1"} {
		for _, zero := range []api.Poly{nil, {}} {
			if q, r, err := poly.DivMod(of(t, a), zero); err != api.ErrZero || len(q) != 0 || len(r) != 0 {
				t.Errorf("DivMod(%s, 0) = %v, %v, %v", a, q, r, err)
			}
		}
	}
}

func TestGcd(t *testing.T) {
	for _, x := range []struct{ a, b, g string }{
		{"", "", ""}, {"", "1", "1"}, {"", "-2/3", "1"}, {"", "4 2", "2 1"}, {"", "0 0 -3", "0 0 1"},
		{"3", "5", "1"}, {"3", "0 1", "1"}, {"2/7", "1 2 3 4", "1"},
		{"1 1", "2 1", "1"}, {"-2 0 1", "1 0 1", "1"}, {"0 1", "1 0 0 0 5", "1"},
		{"2 3 1", "3 4 1", "1 1"}, {"4 6 2", "-9 -12 -3", "1 1"}, {"-1 0 1", "1 -2 1", "-1 1"}, {"-1 0 0 1", "-1 0 0 0 1", "-1 1"},
		{"-1 0 0 0 0 0 1", "-1 0 0 0 1", "-1 0 1"}, {"0 0 0 1", "0 0 1", "0 0 1"}, {"0 0 1", "0 -1 1", "0 1"},
		{"1 2 3", "1 2 3", "1/3 2/3 1"}, {"1/2 1", "1/2 1", "1/2 1"}, {"-1 0 -1", "3 0 3", "1 0 1"},
		{"1/2 3/4 1/4", "1/3 4/9 1/9", "1 1"},
	} {
		a, b := of(t, x.a), of(t, x.b)
		mustBe(t, "Gcd of ("+x.a+") and ("+x.b+")", poly.Gcd(a, b), x.g)
		mustBe(t, "Gcd of ("+x.b+") and ("+x.a+")", poly.Gcd(b, a), x.g)
	}
}

func TestExt(t *testing.T) {
	for _, x := range []struct{ a, b, g, s, u string }{
		{"", "", "", "1", ""},
		{"", "5", "1", "", "1/5"}, {"5", "", "1", "1/5", ""}, {"", "4 2", "2 1", "", "1/2"}, {"4 2", "", "2 1", "1/2", ""}, {"", "0 0 -3", "0 0 1", "", "-1/3"},
		{"2", "3", "1", "", "1/3"}, {"3", "2", "1", "", "1/2"}, {"-1/2", "-1/2", "1", "", "-2"},
		{"2", "0 1", "1", "1/2", ""}, {"0 1", "2", "1", "", "1/2"}, {"1 2 3", "-3/4", "1", "", "-4/3"}, {"-3/4", "1 2 3", "1", "-4/3", ""},
		{"1 1", "1 1", "1 1", "", "1"}, {"2 2", "3 3", "1 1", "", "1/3"}, {"3 3", "2 2", "1 1", "", "1/2"},
		{"1 2 1", "1 1", "1 1", "", "1"}, {"1 1", "1 2 1", "1 1", "1", ""}, {"2 2", "-1 0 1", "1 1", "1/2", ""},
		{"0 1", "1 1", "1", "-1", "1"}, {"1 1", "0 1", "1", "1", "-1"},
		{"2 3 1", "3 4 1", "1 1", "-1", "1"}, {"3 4 1", "2 3 1", "1 1", "1", "-1"},
		{"-2 0 1", "0 2", "1", "-1/2", "0 1/4"}, {"0 2", "-2 0 1", "1", "0 1/4", "-1/2"},
		{"1 0 0 1", "1 0 1", "1", "1/2 1/2", "1/2 -1/2 -1/2"},
	} {
		a, b := of(t, x.a), of(t, x.b)
		g, s, u := poly.Ext(a, b)
		call := "Ext of (" + x.a + ") and (" + x.b + ")"
		mustBe(t, "g of "+call, g, x.g)
		mustBe(t, "s of "+call, s, x.s)
		mustBe(t, "t of "+call, u, x.u)
		if !same(poly.Add(poly.Mul(s, a), poly.Mul(u, b)), g) {
			t.Errorf("%s: s a + t b is not g", call)
		}
	}
}

func TestExtOfFractionsIsExact(t *testing.T) {
	// The coefficients grow with each step; the result must be right for long sequences, too.
	a, b := cyclic(t, 24, 3), cyclic(t, 23, 5)
	g, s, u := poly.Ext(a, b)
	if !same(g, of(t, "1")) || !same(poly.Add(poly.Mul(s, a), poly.Mul(u, b)), g) || len(s) != len(b)-1 || len(u) != len(a)-1 {
		t.Errorf("Ext = %s, %s, %s", text(g), text(s), text(u))
	}
}

// cyclic returns a polynomial of degree n whose coefficients are fractions that follow a short rule.
func cyclic(t *testing.T, n int, step int64) api.Poly {
	t.Helper()
	var out api.Poly
	k := int64(1)
	for range n + 1 {
		k = k * step % 101
		c, err := rational.Of(raw(k, 1).Num, raw(1+k%7, 1).Num)
		if err != api.OK {
			t.Fatal(err)
		}
		out = append(out, c)
	}
	return out
}
