package mpoly_test

import (
	"math"
	"strconv"
	"testing"

	"quadrature/mpoly"
)

func TestDeg(t *testing.T) {
	for s, want := range map[string][4]int{
		"0": {-1, -1, -1, -1}, "1": {}, "-2/3": {}, "x": {1, 0, 0, 0}, "y": {0, 1, 0, 0}, "z": {0, 0, 1, 0}, "w": {0, 0, 0, 1},
		"x^2 y^3 z^4 w^5": {2, 3, 4, 5}, "w + z^2 + y^3 + x^4 + 1": {4, 3, 2, 1}, "x w + x^7 y^2 + x^3": {7, 2, 0, 1}, "y^2 + x^5 y + x^3": {5, 2, 0, 0}, "y - 1": {0, 1, 0, 0}, "x^9223372036854775807": {math.MaxInt, 0, 0, 0},
	} {
		for v, n := range want {
			if got := mpoly.Deg(of(t, s), v); got != n {
				t.Errorf("Deg(%s, %d) = %d, want %d", s, v, got, n)
			}
		}
	}
}

func TestCoeffs(t *testing.T) {
	for _, x := range []struct {
		a    string
		v    int
		want string
	}{
		// 0, and polynomials without the variable.
		{"0", 0, ""}, {"0", 3, ""}, {"1", 0, "1"}, {"-2/3", 2, "-2/3"}, {"y + 1", 0, "y + 1"}, {"w + x", 1, "w + x"}, {"x", 3, "x"},
		// Others, with coefficients 0 between them.
		{"x", 0, "0; 1"}, {"x^3", 0, "0; 0; 0; 1"}, {"-2/3 x^2 y", 0, "0; 0; -2/3 y"}, {"-2/3 x^2 y", 1, "0; -2/3 x^2"}, {"x^2 + 2 x + 3", 0, "3; 2; 1"}, {"x y + y + 3", 1, "3; x + 1"}, {"x y + y + 3", 0, "y + 3; y"},
		{"w + z + y + x + 1", 0, "w + z + y + 1; 1"}, {"w + z + y + x + 1", 1, "w + z + x + 1; 1"}, {"w + z + y + x + 1", 2, "w + y + x + 1; 1"}, {"w + z + y + x + 1", 3, "z + y + x + 1; 1"},
		{"x^2 w^2 + y w + x w + z^2 + x^2 z", 0, "y w + z^2; w; w^2 + z"}, {"x^2 w^2 + y w + x w + z^2 + x^2 z", 3, "z^2 + x^2 z; y + x; x^2"}, {"x^2 w^2 + y w + x w + z^2 + x^2 z", 2, "x^2 w^2 + y w + x w; x^2; 1"},
	} {
		got := mpoly.Coeffs(of(t, x.a), x.v)
		if texts(got) != x.want {
			t.Errorf("Coeffs(%s, %d) = %s, want %s", x.a, x.v, texts(got), x.want)
		}
		for _, p := range got {
			if !isValid(p) {
				t.Errorf("Coeffs(%s, %d) has an element that is not valid", x.a, x.v)
			}
		}
	}
}

func TestFrom(t *testing.T) {
	for _, x := range []struct {
		l    string
		v    int
		want string
	}{
		{"", 0, "0"}, {"", 3, "0"}, {"0", 1, "0"}, {"0; 0; 0", 2, "0"}, {"5", 0, "5"}, {"5", 3, "5"}, {"y + 1", 0, "y + 1"},
		{"0; 1", 0, "x"}, {"0; 1", 3, "w"}, {"3; x + 1", 1, "x y + y + 3"}, {"1; 2; 3", 2, "3 z^2 + 2 z + 1"}, {"0; 0; 0; -2/3 x", 1, "-2/3 x y^3"}, {"w; z; y", 0, "w + x z + x^2 y"},
		// Zeros at the end.
		{"1; 0", 0, "1"}, {"0; x; 0; 0", 1, "x y"}, {"x; 0; 1; 0", 3, "w^2 + x"},
		// Elements that contain the variable.
		{"x", 0, "x"}, {"x; x", 0, "x^2 + x"}, {"x; 1", 0, "2 x"}, {"x; -1", 0, "0"}, {"x^2; -x", 0, "0"}, {"y + 1; y; 1", 1, "2 y^2 + y + 1"}, {"w; w; w", 3, "w^3 + w^2 + w"}, {"x^2 - 1; y - x; 1", 0, "x y + x^2 - 1"},
	} {
		mustBe(t, "From("+x.l+", "+strconv.Itoa(x.v)+")", mpoly.From(list(t, x.l), x.v), x.want)
	}
}

func TestSparsePolynomials(t *testing.T) {
	// None of these may go through all smaller exponents.
	p := of(t, "x^1000000000000 y - y + x^1000000000000 + 2")
	mustBe(t, "Partial", mpoly.Partial(p, 0), "1000000000000 x^999999999999 y + 1000000000000 x^999999999999")
	mustBe(t, "Eval at 1", mpoly.Eval(p, 0, number(t, "1")), "3")
	mustBe(t, "Eval at -1", mpoly.Eval(mpoly.Mul(p, of(t, "x")), 0, number(t, "-1")), "-3")
	mustBe(t, "Eval at 0", mpoly.Eval(p, 0, number(t, "0")), "-y + 2")
	mustBe(t, "Subst", mpoly.Subst(p, 0, of(t, "z w^2")), "y z^1000000000000 w^2000000000000 + z^1000000000000 w^2000000000000 - y + 2")
	mustDivide(t, mpoly.Mul(p, p), p, text(p))
	mustDivide(t, p, of(t, "x"), "")
	mustDivide(t, of(t, "x^1000000000000"), of(t, "x - 2"), "")
	mustDivide(t, of(t, "x^1000000000000 w^2"), of(t, "w - 2 x"), "")
	mustDivide(t, of(t, "y^1000000000000 + 1"), of(t, "y + x"), "")
	mustDivide(t, of(t, "y^1000000000000 + x + 1"), of(t, "y - x"), "")
	mustDivide(t, of(t, "x^1000000000000"), of(t, "-2 x^999999999999"), "-1/2 x")
	mustLeave(t, p, of(t, "-z + x^1000000000000"), 0, "y z + z - y + 2")
	mustLeave(t, p, of(t, "z + y"), 0, "0")
	mustLeave(t, mpoly.Mul(p, of(t, "z + y")), mpoly.Mul(p, of(t, "z + y")), 0, "0")
	mustLeave(t, of(t, "x^1000000000000"), of(t, "x y + x"), 0, "0")
	// One element for each exponent would be more than any memory holds.
	if l := mpoly.Coeffs(p, 0); len(l) != 0 {
		t.Errorf("Coeffs returns %d elements", len(l))
	}
}

func TestPartial(t *testing.T) {
	for _, x := range []struct {
		a    string
		want [4]string
	}{
		{"0", [4]string{"0", "0", "0", "0"}}, {"1", [4]string{"0", "0", "0", "0"}}, {"-2/3", [4]string{"0", "0", "0", "0"}},
		{"x", [4]string{"1", "0", "0", "0"}}, {"y", [4]string{"0", "1", "0", "0"}}, {"z", [4]string{"0", "0", "1", "0"}}, {"w", [4]string{"0", "0", "0", "1"}},
		{"x^2", [4]string{"2 x", "0", "0", "0"}}, {"w^5", [4]string{"0", "0", "0", "5 w^4"}}, {"x^2 y^3 z w^4", [4]string{"2 x y^3 z w^4", "3 x^2 y^2 z w^4", "x^2 y^3 w^4", "4 x^2 y^3 z w^3"}},
		{"w + z + y + x + 1", [4]string{"1", "1", "1", "1"}}, {"y^2 + x y + x^3", [4]string{"y + 3 x^2", "2 y + x", "0", "0"}}, {"1/2 x^2 - 1/3 x", [4]string{"x - 1/3", "0", "0", "0"}}, {"x w^2 + x^2 y w + y", [4]string{"w^2 + 2 x y w", "x^2 w + 1", "0", "2 x w + x^2 y"}},
	} {
		for v, want := range x.want {
			mustBe(t, "Partial("+x.a+", "+strconv.Itoa(v)+")", mpoly.Partial(of(t, x.a), v), want)
		}
	}
}

func TestEval(t *testing.T) {
	for _, x := range []struct {
		a    string
		v    int
		c    string
		want string
	}{
		{"0", 0, "0", "0"}, {"0", 1, "7", "0"}, {"5", 0, "0", "5"}, {"5", 2, "-1/2", "5"}, {"y + 1", 0, "3", "y + 1"}, {"w + x", 2, "0", "w + x"},
		{"x", 0, "0", "0"}, {"x", 0, "-2/3", "-2/3"}, {"x^2 + 2 x + 3", 0, "0", "3"}, {"x^2 + 2 x + 3", 0, "1", "6"}, {"x^2 + 2 x + 3", 0, "-1/2", "9/4"}, {"x^2 - 1", 0, "1", "0"}, {"x^5", 0, "2", "32"}, {"w^3 - w", 3, "-3", "-24"},
		{"y^2 + x y + x^3", 0, "2", "y^2 + 2 y + 8"}, {"y^2 + x y + x^3", 1, "2", "x^3 + 2 x + 4"}, {"y^2 + x y + x^3", 1, "0", "x^3"}, {"z w + x y", 3, "5", "5 z + x y"},
		// Terms that become equal, or cancel.
		{"x y + y", 0, "1", "2 y"}, {"x y + y", 0, "-1", "0"}, {"y z + x z - y + x", 2, "1", "2 x"},
	} {
		mustBe(t, x.a+" at "+x.c, mpoly.Eval(of(t, x.a), x.v, number(t, x.c)), x.want)
	}
}

func TestSubst(t *testing.T) {
	for _, x := range []struct {
		a    string
		v    int
		b    string
		want string
	}{
		{"0", 0, "0", "0"}, {"0", 2, "w + x", "0"}, {"5", 0, "0", "5"}, {"5", 1, "x + 1", "5"}, {"y + 1", 0, "w", "y + 1"},
		// 0 for the variable.
		{"x", 0, "0", "0"}, {"x^2 + 2 x + 3", 0, "0", "3"}, {"x y + y", 1, "0", "0"}, {"w^2 + x w + x", 3, "0", "x"},
		// Numbers, variables and terms.
		{"x y + y", 0, "-1", "0"}, {"y + x", 0, "y", "2 y"}, {"y + x", 1, "x", "2 x"}, {"y - x", 0, "y", "0"}, {"w + x^3", 0, "2 z^2", "w + 8 z^6"}, {"x^2 y", 1, "-1/2 x w", "-1/2 x^3 w"},
		// Polynomials that contain the variable.
		{"x", 0, "x", "x"}, {"x^2 y", 0, "x + 1", "x^2 y + 2 x y + y"}, {"x^3 + x", 0, "-x", "-x^3 - x"}, {"x^3", 0, "x^2", "x^6"}, {"y^2 + x", 1, "y + x", "y^2 + 2 x y + x^2 + x"}, {"w^2 - w", 3, "w + 1", "w^2 + w"}, {"x^2 - 1/4", 0, "x - 1/2", "x^2 - x"},
		// Others.
		{"x^2 - 2", 0, "w + z", "w^2 + 2 z w + z^2 - 2"}, {"x^4 + x", 0, "y - 1", "y^4 - 4 y^3 + 6 y^2 - 3 y"}, {"y^2 + x^3", 1, "x", "x^3 + x^2"}, {"z^2 - y^2", 2, "y + x", "2 x y + x^2"}, {"x z + 1", 2, "1/2 y + 1/3", "1/2 x y + 1/3 x + 1"},
	} {
		mustBe(t, x.a+" with "+x.b+" for "+strconv.Itoa(x.v), mpoly.Subst(of(t, x.a), x.v, of(t, x.b)), x.want)
	}
}
