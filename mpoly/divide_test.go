package mpoly_test

import (
	"testing"

	"quadrature/api"
	"quadrature/mpoly"
)

func TestDiv(t *testing.T) {
	for _, x := range []struct{ a, b, want string }{
		// By 0, and of 0.
		{"0", "0", ""}, {"1", "0", ""}, {"y + x", "0", ""}, {"0", "1", "0"}, {"0", "x", "0"}, {"0", "w + 2/3 x", "0"},
		// By constants.
		{"1", "1", "1"}, {"1", "-2", "-1/2"}, {"2/3", "4/9", "3/2"}, {"y + x", "1", "y + x"}, {"2 y + 1/3 x - 6", "2/3", "3 y + 1/2 x - 9"}, {"w", "-1", "-w"},
		// By terms.
		{"x", "x", "1"}, {"x^3 y", "2 x y", "1/2 x^2"}, {"x y + x", "x", "y + 1"}, {"y^2 w + x y w", "-1/3 y w", "-3 y - 3 x"}, {"x", "y", ""}, {"x", "x^2", ""}, {"1", "x", ""}, {"x + 1", "x", ""}, {"y w + w + y", "w", ""}, {"x^2 z", "x w", ""},
		// By sums.
		{"y^2 - x^2", "y + x", "y - x"}, {"y^2 - x^2", "y - x", "y + x"}, {"x^3 - 1", "x - 1", "x^2 + x + 1"}, {"x^4 + 4", "x^2 + 2 x + 2", "x^2 - 2 x + 2"}, {"w^3 - z^3", "w - z", "w^2 + z w + z^2"}, {"x y + y + x + 1", "y + 1", "x + 1"}, {"y + x", "y + x", "1"}, {"-2 y - 2 x", "y + x", "-2"}, {"2 y + 2 x", "3 y + 3 x", "2/3"},
		{"1/4 y^2 - 1/9 x^2", "1/2 y + 1/3 x", "1/2 y - 1/3 x"}, {"x^2 + 5 x + 6", "2/3 x + 4/3", "3/2 x + 9/2"}, {"x + 1/2", "2 x + 1", "1/2"}, {"6 x^2 y + 4 x y", "9 x + 6", "2/3 x y"},
		{"w^2 - x^2 - 2 x - 1", "w + x + 1", "w - x - 1"}, {"x^6 - 1", "x^4 + x^2 + 1", "x^2 - 1"}, {"y^2 w + y w + x w + z", "y w + 1", ""},
		// No quotient: a remainder, greater degrees, other variables.
		{"y^2 + x^2", "y + x", ""}, {"x^3 + 1", "x - 1", ""}, {"x", "x + 1", ""}, {"x + 1", "x + 2", ""}, {"1", "x + 1", ""}, {"x^2 + 1", "x^3 + 1", ""}, {"y", "x + 1", ""}, {"w + x", "z + x", ""}, {"y^2 + x", "y + x^2", ""}, {"y + x^2", "y^2 + x", ""},
		// No quotient: the first coefficients go, others do not.
		{"2 x^2 + x", "2 x + 2", ""}, {"2 x + 1", "2 x + 2", ""}, {"x^2 + 1/2 x", "2 x - 1", ""}, {"4 x^2 - 2", "2 x + 1", ""}, {"3 x^2 + 2 x", "2 x + 1", ""},
		// No quotient, though each step of the division in the order of the terms goes.
		{"y", "y + x", ""}, {"y^2", "y + x", ""}, {"x y", "y + 1", ""}, {"w^3", "w + x^2", ""}, {"y^3 + x^3 + 1", "y + x", ""},
	} {
		mustDivide(t, of(t, x.a), of(t, x.b), x.want)
	}
}

func TestDivOfGeometricSums(t *testing.T) {
	// (y^n - x^n)/(y - x) and (y^n + x^n)/(y + x), which exists for odd n only.
	for n := 1; n <= 30; n++ {
		x, y := mpoly.Pow(of(t, "x"), n), mpoly.Pow(of(t, "y"), n)
		sum := api.MPoly{}
		for k := range n {
			sum = mpoly.Add(sum, mpoly.Mul(mpoly.Pow(of(t, "y"), n-1-k), mpoly.Pow(of(t, "x"), k)))
		}
		mustDivide(t, mpoly.Sub(y, x), of(t, "y - x"), text(sum))
		want := ""
		if n%2 == 1 {
			want = text(mpoly.Subst(sum, 0, of(t, "-x")))
		}
		mustDivide(t, mpoly.Add(y, x), of(t, "y + x"), want)
	}
}

func TestPseudo(t *testing.T) {
	for _, x := range []struct {
		a, b string
		v    int
		want string
	}{
		// m < n.
		{"0", "x", 0, "0"}, {"0", "5", 0, "0"}, {"0", "w + 1", 1, "0"}, {"1", "x", 0, "1"}, {"y^5 + x", "x^2 + 1", 0, "y^5 + x"}, {"2/3 y", "y^2 + y", 1, "2/3 y"}, {"w + x^7", "x w^2", 3, "w + x^7"},
		// m = n.
		{"x", "x", 0, "0"}, {"x", "x + 1", 0, "-1"}, {"x", "2 x + 1", 0, "-1"}, {"x + 1", "2 x", 0, "2"}, {"x y", "y + x", 0, "-y^2"}, {"x^2", "y^2 + x^2", 0, "-y^2"}, {"x^2 + x", "x^2 y + 1", 0, "x y - 1"}, {"z w + 1", "x w + y", 3, "-y z + x"}, {"3 y + 1", "1/2 y - 2", 1, "13/2"},
		// m > n.
		{"x^2", "y + 2 x", 0, "y^2"}, {"x^2", "x - 1", 0, "1"}, {"x^3", "y + x", 0, "-y^3"}, {"x^3", "-y + 2 x", 0, "y^3"}, {"x^2 + x + 1", "2 x + 1", 0, "3"}, {"x^4", "x^2 + 1", 0, "1"}, {"x^3 + 1", "2 x^2 + 3 x + 1", 0, "7 x + 7"}, {"x^5", "x^2 - 2", 0, "4 x"}, {"x^2", "-x + 1", 0, "1"}, {"x^3", "-x + 1", 0, "-1"}, {"x^2 + 1", "1/2 x - 1", 0, "5/4"},
		// Powers of v that do not occur: the factor is applied nevertheless.
		{"x^3", "2 x^2", 0, "0"}, {"x^3 + 1", "2 x^2", 0, "4"}, {"x^3 + x", "3 x^2 + 1", 0, "6 x"}, {"x^4 + 1", "2 x^2 + 1", 0, "10"}, {"y + x^4", "x^2 z", 0, "y z^3"}, {"x^5 + 1", "3 x^2", 0, "81"}, {"w^4 + x", "y w^2", 3, "x y^3"},
		// Divisors that do not contain v.
		{"x^2 + 1", "5", 0, "0"}, {"x^2 + 1", "y", 0, "0"}, {"7", "y", 0, "0"}, {"7", "2", 3, "0"}, {"w + x", "y + x", 3, "0"}, {"x + 1", "2/3", 1, "0"},
		// Multiples.
		{"y^2 - x^2", "y + x", 0, "0"}, {"y^2 - x^2", "y + x", 1, "0"}, {"y^3 - x^3", "2 y - 2 x", 1, "0"}, {"x^2 w^2 - 1", "x w + 1", 3, "0"},
	} {
		mustLeave(t, of(t, x.a), of(t, x.b), x.v, x.want)
	}
	for _, a := range list(t, "0; 1; x; w + 2/3 x") {
		for v := range 4 {
			for _, zero := range []api.MPoly{nil, {}} {
				if r, err := mpoly.Pseudo(a, zero, v); len(r) != 0 || err != api.ErrZero {
					t.Errorf("Pseudo(%s, 0, %d) = %s, %v", text(a), v, text(r), err)
				}
			}
		}
	}
}
