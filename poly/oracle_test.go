package poly_test

import (
	"math/big"
	"math/rand"
	"slices"
	"testing"

	"quadrature/api"
	"quadrature/integer"
	"quadrature/poly"
	"quadrature/rational"
)

// plain is a polynomial over the numbers of the standard library, for the direct computations that serve as the oracle.
type plain []*big.Rat

// toPlain returns p in the form of the oracle.
func toPlain(p api.Poly) plain {
	out := plain{}
	for _, c := range p {
		x, ok := new(big.Rat).SetString(rational.Text(c))
		if !ok {
			panic("the text of a number is not one")
		}
		out = append(out, x)
	}
	return out
}

// text lists the coefficients of p.
func (p plain) text() string {
	var out []api.Rat
	for _, x := range p {
		c, err := rational.Read(x.RatString())
		if err != api.OK {
			panic("the number is too long")
		}
		out = append(out, c)
	}
	return text(out)
}

// trimmed returns p without zeros at its end.
func (p plain) trimmed() plain {
	for len(p) > 0 && p[len(p)-1].Sign() == 0 {
		p = p[:len(p)-1]
	}
	return p
}

// plus returns p + c x^shift q.
func (p plain) plus(c *big.Rat, shift int, q plain) plain {
	out := make(plain, max(len(p), len(q)+shift))
	for i := range out {
		out[i] = new(big.Rat)
		if i < len(p) {
			out[i].Set(p[i])
		}
		if i >= shift && i-shift < len(q) {
			out[i].Add(out[i], new(big.Rat).Mul(c, q[i-shift]))
		}
	}
	return out.trimmed()
}

// times returns p q.
func (p plain) times(q plain) plain {
	out := plain{}
	for i, c := range p {
		out = out.plus(c, i, q)
	}
	return out
}

// divided returns the quotient and the remainder of p and q.
func (p plain) divided(q plain) (plain, plain) {
	quotient, rest := plain{}, p
	for len(rest) >= len(q) {
		c := new(big.Rat).Quo(rest[len(rest)-1], q[len(q)-1])
		shift := len(rest) - len(q)
		quotient = quotient.plus(c, shift, plain{big.NewRat(1, 1)})
		rest = rest.plus(new(big.Rat).Neg(c), shift, q)
	}
	return quotient, rest
}

// plainExt is the extended Euclidean algorithm, word for word as the chapter describes it.
func plainExt(a, b plain) [3]plain {
	one, minus := big.NewRat(1, 1), big.NewRat(-1, 1)
	first, second := [3]plain{a, {one}, {}}, [3]plain{b, {}, {one}}
	for len(second[0]) > 0 {
		q, _ := first[0].divided(second[0])
		var next [3]plain
		for i := range next {
			next[i] = first[i].plus(minus, 0, q.times(second[i]))
		}
		first, second = second, next
	}
	if len(first[0]) > 0 {
		c := new(big.Rat).Inv(first[0][len(first[0])-1])
		for i := range first {
			first[i] = plain{}.plus(c, 0, first[i])
		}
	}
	return first
}

// plainResultant returns the determinant of the Sylvester matrix.
func plainResultant(a, b plain) *big.Rat {
	if len(a) == 0 || len(b) == 0 {
		return new(big.Rat)
	}
	m, n := len(a)-1, len(b)-1
	var matrix [][]*big.Rat
	for i := range n {
		matrix = append(matrix, sylvesterRow(a, i, m+n))
	}
	for i := range m {
		matrix = append(matrix, sylvesterRow(b, i, m+n))
	}
	return determinant(matrix)
}

// sylvesterRow returns the coefficients of a from the leading one on, shifted to the right, in a row of the given width.
func sylvesterRow(a plain, shift, width int) []*big.Rat {
	out := make([]*big.Rat, width)
	for i := range out {
		out[i] = new(big.Rat)
		if k := len(a) - 1 - (i - shift); k >= 0 && k < len(a) {
			out[i].Set(a[k])
		}
	}
	return out
}

// determinant returns the determinant of a matrix, by elimination.
func determinant(matrix [][]*big.Rat) *big.Rat {
	out := big.NewRat(1, 1)
	for i := range matrix {
		pivot := slices.IndexFunc(matrix[i:], func(row []*big.Rat) bool { return row[i].Sign() != 0 })
		if pivot < 0 {
			return new(big.Rat)
		}
		if pivot > 0 {
			matrix[i], matrix[i+pivot] = matrix[i+pivot], matrix[i]
			out.Neg(out)
		}
		out.Mul(out, matrix[i][i])
		for _, row := range matrix[i+1:] {
			c := new(big.Rat).Quo(row[i], matrix[i][i])
			for k := range row {
				row[k].Sub(row[k], new(big.Rat).Mul(c, matrix[i][k]))
			}
		}
	}
	return out
}

// coefficient returns a small fraction, or sometimes a longer one or 0.
func coefficient(r *rand.Rand) api.Rat {
	n, d := int64(r.Intn(19)-9), int64(1+r.Intn(6))
	switch r.Intn(8) {
	case 0:
		n = 0
	case 1:
		n, d = r.Int63()-r.Int63(), 1+r.Int63()
	case 2, 3:
		d = 1
	}
	c, err := rational.Of(integer.Of(n), integer.Of(d))
	if err != api.OK {
		panic(err)
	}
	return c
}

// nonzero returns such a number other than 0.
func nonzero(r *rand.Rand) api.Rat {
	for {
		if c := coefficient(r); rational.Sign(c) != 0 {
			return c
		}
	}
}

// sample returns a polynomial with at most the given number of coefficients.
func sample(r *rand.Rand, length int) api.Poly {
	var out api.Poly
	for range r.Intn(length + 1) {
		out = append(out, coefficient(r))
	}
	if len(out) > 0 {
		out[len(out)-1] = nonzero(r)
	}
	return out
}

// pairs calls check with pairs of polynomials, half of which have common factors.
func pairs(seed int64, count, length int, check func(a, b api.Poly)) {
	r := rand.New(rand.NewSource(seed))
	for i := range count {
		a, b := sample(r, length), sample(r, length)
		if i%2 == 0 {
			c := sample(r, 3)
			a, b = poly.Mul(a, c), poly.Mul(b, c)
		}
		check(a, b)
	}
}

// is checks a result against the oracle, and that it is valid.
func is(t *testing.T, call string, a, b, got api.Poly, want plain) {
	t.Helper()
	if !isValid(got) || text(got) != want.text() {
		t.Fatalf("%s of (%s) and (%s) = %s, want %s", call, text(a), text(b), text(got), want.text())
	}
}

func TestArithmeticAgainstOracle(t *testing.T) {
	one, minus := big.NewRat(1, 1), big.NewRat(-1, 1)
	pairs(51, 1500, 9, func(a, b api.Poly) {
		x, y := toPlain(a), toPlain(b)
		is(t, "Add", a, b, poly.Add(a, b), x.plus(one, 0, y))
		is(t, "Sub", a, b, poly.Sub(a, b), x.plus(minus, 0, y))
		is(t, "Mul", a, b, poly.Mul(a, b), x.times(y))
		if len(b) > 0 {
			q, r, err := poly.DivMod(a, b)
			if err != api.OK {
				t.Fatalf("DivMod of (%s) and (%s): %v", text(a), text(b), err)
			}
			u, v := x.divided(y)
			is(t, "the quotient", a, b, q, u)
			is(t, "the remainder", a, b, r, v)
		}
	})
}

func TestEuclidAgainstOracle(t *testing.T) {
	pairs(52, 800, 8, func(a, b api.Poly) {
		want := plainExt(toPlain(a), toPlain(b))
		g, s, u := poly.Ext(a, b)
		is(t, "g", a, b, g, want[0])
		is(t, "s", a, b, s, want[1])
		is(t, "t", a, b, u, want[2])
		is(t, "Gcd", a, b, poly.Gcd(a, b), want[0])
	})
}

func TestEuclidOfSmallPolynomialsAgainstOracle(t *testing.T) {
	// All pairs of these have gaps, zeros, constants and common factors in all combinations.
	var all []api.Poly
	for code := range 81 {
		var p []api.Rat
		for k := code; len(p) < 4; k /= 3 {
			p = append(p, rational.Whole(int64(k%3)-1))
		}
		all = append(all, poly.Trim(p))
	}
	for _, a := range all {
		for _, b := range all {
			want := plainExt(toPlain(a), toPlain(b))
			g, s, u := poly.Ext(a, b)
			is(t, "g", a, b, g, want[0])
			is(t, "s", a, b, s, want[1])
			is(t, "t", a, b, u, want[2])
			is(t, "Gcd", a, b, poly.Gcd(a, b), want[0])
			is(t, "Resultant", a, b, poly.Trim([]api.Rat{poly.Resultant(a, b)}), plain{plainResultant(toPlain(a), toPlain(b))}.trimmed())
		}
	}
}

func TestResultantAgainstOracle(t *testing.T) {
	pairs(53, 600, 7, func(a, b api.Poly) {
		got, want := poly.Resultant(a, b), plainResultant(toPlain(a), toPlain(b))
		if !rational.Valid(got) || rational.Text(got) != want.RatString() {
			t.Fatalf("Resultant of (%s) and (%s) = %v, want %v", text(a), text(b), got, want)
		}
	})
}

func TestOneArgumentAgainstOracle(t *testing.T) {
	r := rand.New(rand.NewSource(54))
	for range 600 {
		a, c := sample(r, 9), coefficient(r)
		x, y := toPlain(a), toPlain(api.Poly{c})[0]
		value, derivative, shifted := new(big.Rat), plain{}, plain{}
		for i := len(x) - 1; i >= 0; i-- {
			value.Add(value.Mul(value, y), x[i])
			shifted = shifted.times(plain{y, big.NewRat(1, 1)}).plus(big.NewRat(1, 1), 0, plain{x[i]})
			if i > 0 {
				derivative = derivative.plus(big.NewRat(int64(i), 1), i-1, plain{x[i]})
			}
		}
		args := api.Poly{c}
		is(t, "Scale", a, args, poly.Scale(a, c), plain{}.plus(y, 0, x))
		is(t, "Eval", a, args, poly.Trim([]api.Rat{poly.Eval(a, c)}), plain{value}.trimmed())
		is(t, "Diff", a, args, poly.Diff(a), derivative)
		is(t, "Shift", a, args, poly.Shift(a, c), shifted)
		if len(a) > 0 {
			is(t, "Monic", a, args, poly.Monic(a), plain{}.plus(new(big.Rat).Inv(x[len(x)-1]), 0, x))
		}
	}
}
