package poly_test

import (
	"testing"

	"quadrature/api"
	"quadrature/poly"
)

func TestDiff(t *testing.T) {
	for a, want := range map[string]string{
		"": "", "5": "", "-1/2": "", "3 2": "2", "0 1": "1", "0 0 1": "0 2", "0 0 0 1": "0 0 3", "0 0 0 0 1/4": "0 0 0 1", "1 2 3 4": "2 6 12", "7 0 0 -1/6": "0 0 -1/2",
	} {
		mustBe(t, "Diff("+a+")", poly.Diff(of(t, a)), want)
	}
	power := power(t, 300)
	if d := poly.Diff(power); len(d) != 300 || !same(d, poly.Scale(power[1:], number(t, "300"))) {
		t.Errorf("Diff(x^300) = %s", text(d))
	}
}

// power returns x^n.
func power(t *testing.T, n int) api.Poly {
	t.Helper()
	out := make(api.Poly, n+1)
	for i := range out {
		out[i] = number(t, "0")
	}
	out[n] = number(t, "1")
	return out
}

func TestEval(t *testing.T) {
	for _, x := range []struct{ a, x, y string }{
		{"", "0", "0"}, {"", "-3/4", "0"}, {"5/2", "0", "5/2"}, {"5/2", "7", "5/2"},
		{"1 2 3", "0", "1"}, {"0 2 3", "0", "0"}, {"1 2 3", "1", "6"}, {"1 2 3", "-1", "2"}, {"1 2 3", "1/2", "11/4"}, {"1 2 3", "-1/3", "2/3"},
		{"-2 0 1", "3/2", "1/4"}, {"1/2 1/3 1/4", "2/5", "101/150"}, {"0 0 0 1", "-4294967296", "-79228162514264337593543950336"}, {"-1 1", "1", "0"},
	} {
		mustBeNumber(t, "value of ("+x.a+") at "+x.x, poly.Eval(of(t, x.a), number(t, x.x)), x.y)
	}
}

func TestShift(t *testing.T) {
	for _, x := range []struct{ a, c, shifted string }{
		{"", "0", ""}, {"", "3", ""}, {"5/2", "0", "5/2"}, {"5/2", "-7/3", "5/2"},
		{"1 2 3", "0", "1 2 3"}, {"0 1", "3", "3 1"}, {"0 1", "-1/2", "-1/2 1"}, {"0 0 1", "1", "1 2 1"}, {"0 0 1", "-2", "4 -4 1"},
		{"0 0 0 1", "1/2", "1/8 3/4 3/2 1"}, {"1 2 3", "-1", "2 -4 3"}, {"1 2 1", "-1", "0 0 1"}, {"2 0 -1/3", "3/2", "5/4 -1 -1/3"},
	} {
		a, c := of(t, x.a), number(t, x.c)
		mustBe(t, "shift of ("+x.a+") by "+x.c, poly.Shift(a, c), x.shifted)
		mustBe(t, "shift of ("+x.shifted+") back by "+x.c, poly.Shift(of(t, x.shifted), number(t, negated(x.c))), x.a)
	}
}

// negated returns the notation of the number with the opposite sign.
func negated(s string) string {
	switch {
	case s == "0":
		return s
	case s[0] == '-':
		return s[1:]
	}
	return "-" + s
}
