package sturm_test

import (
	"testing"

	"quadrature/api"
	"quadrature/poly"
	"quadrature/sturm"
)

func TestCount(t *testing.T) {
	for _, x := range []struct {
		p, lo, hi string
		want      int
	}{
		// No polynomial, constants.
		{"", "-1", "1", 0}, {"5", "-1", "1", 0}, {"-1/2", "-100", "100", 0},
		// Intervals without elements.
		{"0 1", "0", "0", 0}, {"0 1", "1", "-1", 0}, {"0 -1 0 1", "1", "1", 0}, {"0 -1 0 1", "2", "-2", 0}, {"", "1", "0", 0}, {"5", "1", "1", 0}, {"1 -2 1", "1", "1", 0}, {"1 -2 1", "1", "0", 0},
		// A root at lo, at hi, at both, at neither.
		{"0 1", "0", "1", 0}, {"0 1", "-1", "0", 1}, {"0 1", "-1", "1", 1}, {"0 1", "1", "2", 0}, {"0 1", "-2", "-1", 0}, {"0 -1", "-1", "0", 1}, {"0 -1", "0", "1", 0},
		{"0 -1 0 1", "-1", "0", 1}, {"0 -1 0 1", "0", "1", 1}, {"0 -1 0 1", "-2", "-1", 1}, {"0 -1 0 1", "1", "2", 0}, {"0 -1 0 1", "-1", "2", 2}, {"0 -1 0 1", "-2", "2", 3}, {"0 -1 0 1", "-1/2", "1/2", 1}, {"0 -1 0 1", "1/4", "3/4", 0},
		// Irrational roots.
		{"-2 0 1", "-2", "2", 2}, {"-2 0 1", "0", "2", 1}, {"-2 0 1", "1", "2", 1}, {"-2 0 1", "7/5", "3/2", 1}, {"-2 0 1", "141421356/100000000", "141421357/100000000", 1}, {"-2 0 1", "141421357/100000000", "2", 0}, {"-2 0 1", "-7/5", "7/5", 0},
		{"-1 -1 0 0 0 1", "-10", "10", 1}, {"-1 -1 0 0 0 1", "1", "7/6", 0}, {"-1 -1 0 0 0 1", "7/6", "6/5", 1}, {"1 -3 0 1", "-2", "2", 3}, {"1 -3 0 1", "0", "1", 1},
		// No real roots.
		{"1 0 1", "-100", "100", 0}, {"1 1 1", "-5/3", "7/2", 0}, {"1 0 0 0 1", "-3", "3", 0}, {"1 0 2 0 1", "-3", "3", 0}, {"-1/3 0 -1/2", "-3", "3", 0},
		// Fractional ends and roots.
		{"-1 2", "0", "1/2", 1}, {"-1 2", "1/2", "1", 0}, {"-1 2", "1/3", "499/1000", 0}, {"-1 2", "499/1000", "501/1000", 1}, {"1/6 -5/6 1", "1/3", "1/2", 1}, {"1/6 -5/6 1", "1/4", "1/2", 2}, {"1/6 -5/6 1", "2/5", "3/7", 0}, {"1/6 -5/6 1", "-1/2", "1/3", 1},
		// Multiple roots count once, wherever they lie.
		{"1 -2 1", "0", "2", 1}, {"1 -2 1", "0", "1", 1}, {"1 -2 1", "1", "2", 0}, {"0 0 0 0 0 -2/7", "-1", "1", 1}, {"0 0 0 0 0 -2/7", "-1", "0", 1}, {"0 0 0 0 0 -2/7", "0", "1", 0}, {"4 0 -4 0 1", "-2", "2", 2}, {"4 0 -4 0 1", "0", "2", 1},
		{"0 0 2 2", "-1", "0", 1}, {"0 0 2 2", "-2", "-1", 1}, {"0 0 2 2", "-2", "0", 2}, {"0 0 2 2", "-1", "-1/2", 0},
		// Ends far away, and close together.
		{"0 -1 0 1", "-1000000000000000000000000", "1000000000000000000000000", 3}, {"1 -2 1", "999999999999999999999999/1000000000000000000000000", "1000000000000000000000001/1000000000000000000000000", 1},
	} {
		p, lo, hi := of(t, x.p), number(t, x.lo), number(t, x.hi)
		mustCount(t, p, lo, hi, x.want)
		// A negative factor must not change anything, nor must one that shortens or extends the coefficients.
		for _, c := range []string{"-1", "-3/7", "12", "1/1000000007"} {
			mustCount(t, poly.Scale(p, number(t, c)), lo, hi, x.want)
		}
		mustCount(t, poly.Mul(p, p), lo, hi, x.want)
	}
}

func TestCountOfHighPowers(t *testing.T) {
	p := of(t, "1")
	for range 30 {
		p = poly.Mul(p, of(t, "-1/2 1"))
	}
	for range 20 {
		p = poly.Mul(p, of(t, "-3 0 1"))
	}
	p = poly.Mul(p, of(t, "7 -5"))
	for _, x := range []struct {
		lo, hi string
		want   int
	}{{"-2", "2", 4}, {"-2", "0", 1}, {"0", "1/2", 1}, {"1/2", "7/5", 1}, {"1/2", "4/3", 0}, {"7/5", "2", 1}, {"2", "100", 0}} {
		mustCount(t, p, number(t, x.lo), number(t, x.hi), x.want)
	}
}

func TestCountOfPowersOfX(t *testing.T) {
	p := make(api.Poly, 301)
	for i := range p {
		p[i] = number(t, "0")
	}
	p[300] = number(t, "1")
	mustCount(t, p, number(t, "-1"), number(t, "1"), 1)
	p[0] = number(t, "-1")
	mustCount(t, p, number(t, "-1"), number(t, "1"), 1)
	mustCount(t, p, number(t, "-2"), number(t, "1"), 2)
	if got := len(sturm.Chain(p)); got != 3 {
		t.Errorf("the chain of x^300 - 1 has %d elements", got)
	}
}
