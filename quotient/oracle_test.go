package quotient_test

import (
	"math/big"
	"math/rand"
	"slices"
	"strings"
	"testing"

	"quadrature/api"
	"quadrature/integer"
	"quadrature/poly"
	"quadrature/quotient"
	"quadrature/rational"
)

// plain is a list of numbers of the standard library, for the direct computations that serve as the oracle: the coefficients of a polynomial, or a row of a matrix.
type plain []*big.Rat

// toPlain returns p in the form of the oracle.
func toPlain(p api.Poly) plain {
	out := plain{}
	for _, c := range p {
		x, ok := new(big.Rat).SetString(rational.Text(c))
		if !ok {
			panic("the text of a number is not one")
		}
		out = append(out, x)
	}
	return out
}

// text lists the numbers of p.
func (p plain) text() string {
	var words []string
	for _, x := range p {
		words = append(words, x.RatString())
	}
	return strings.Join(words, " ")
}

// trimmed returns p without zeros at its end.
func (p plain) trimmed() plain {
	for len(p) > 0 && p[len(p)-1].Sign() == 0 {
		p = p[:len(p)-1]
	}
	return p
}

// at returns the number with the index i, 0 beyond the end.
func (p plain) at(i int) *big.Rat {
	if i < len(p) {
		return p[i]
	}
	return new(big.Rat)
}

// plus returns p + c x^shift q, with zeros at its end.
func (p plain) plus(c *big.Rat, shift int, q plain) plain {
	out := make(plain, max(len(p), len(q)+shift))
	for i := range out {
		out[i] = new(big.Rat).Set(p.at(i))
		if i >= shift {
			out[i].Add(out[i], new(big.Rat).Mul(c, q.at(i-shift)))
		}
	}
	return out
}

// times returns p q.
func (p plain) times(q plain) plain {
	out := plain{}
	for i, c := range p {
		out = out.plus(c, i, q)
	}
	return out.trimmed()
}

// modulo returns the remainder of p by q.
func (p plain) modulo(q plain) plain {
	p = p.trimmed()
	for len(p) >= len(q) {
		c := new(big.Rat).Quo(p[len(p)-1], q[len(q)-1])
		p = p.plus(c.Neg(c), len(p)-len(q), q).trimmed()
	}
	return p
}

// multiplication returns the matrix of the multiplication by a modulo q: the row i has the coefficients of z^i a.
func multiplication(q, a plain) []plain {
	var rows []plain
	row := a.modulo(q)
	for range len(q) - 1 {
		rows = append(rows, row.plus(new(big.Rat), len(q)-2, plain{new(big.Rat)}))
		row = plain{}.plus(big.NewRat(1, 1), 1, row).modulo(q)
	}
	return rows
}

// plainTrace returns the sum of the diagonal of the matrix of the multiplication by a.
func plainTrace(q, a plain) *big.Rat {
	sum := new(big.Rat)
	for i, row := range multiplication(q, a) {
		sum.Add(sum, row[i])
	}
	return sum
}

// determinant returns the determinant of a matrix, by elimination.
func determinant(rows []plain) *big.Rat {
	out := big.NewRat(1, 1)
	for i := range rows {
		pivot := slices.IndexFunc(rows[i:], func(row plain) bool { return row[i].Sign() != 0 })
		if pivot < 0 {
			return new(big.Rat)
		}
		if pivot > 0 {
			rows[i], rows[i+pivot] = rows[i+pivot], rows[i]
			out.Neg(out)
		}
		out.Mul(out, rows[i][i])
		for k := i + 1; k < len(rows); k++ {
			c := new(big.Rat).Quo(rows[k][i], rows[i][i])
			rows[k] = rows[k].plus(c.Neg(c), 0, rows[i])
		}
	}
	return out
}

// plainNorm returns the determinant of the matrix of the multiplication by a.
func plainNorm(q, a plain) *big.Rat { return determinant(multiplication(q, a)) }

// plainPower returns the traces of the first n powers of z.
func plainPower(q plain, n int) plain {
	out, power := plain{}, plain{big.NewRat(1, 1)}
	for range n {
		out = append(out, plainTrace(q, power))
		power = plain{}.plus(big.NewRat(1, 1), 1, power).modulo(q)
	}
	return out
}

// plainMinimal returns the coefficients of the first combination of the powers of a, with the coefficient 1 at the last one, whose remainder by q is 0.
func plainMinimal(q, a plain) plain {
	// Each row is a combination of powers, whose coefficients follow its remainder; no two rows have the same pivot.
	var rows []plain
	var pivots []int
	n, power := len(q)-1, plain{big.NewRat(1, 1)}.modulo(q)
	for k := 0; ; k++ {
		row := power.plus(big.NewRat(1, 1), n+k, plain{big.NewRat(1, 1)})
		for i, col := range pivots {
			c := new(big.Rat).Quo(row[col], rows[i][col])
			row = row.plus(c.Neg(c), 0, rows[i])
		}
		pivot := slices.IndexFunc(row[:n], func(c *big.Rat) bool { return c.Sign() != 0 })
		if pivot < 0 {
			return row[n:]
		}
		rows, pivots = append(rows, row), append(pivots, pivot)
		power = power.times(a).modulo(q)
	}
}

// plainValid reports whether the determinant of the Sylvester matrix of q and its derivative is not 0.
func plainValid(q plain) bool {
	n := len(q) - 1
	if n < 1 {
		return false
	}
	derivative := plain{}
	for i := 1; i <= n; i++ {
		derivative = append(derivative, new(big.Rat).Mul(big.NewRat(int64(i), 1), q[i]))
	}
	var rows []plain
	padding := plain{}.plus(new(big.Rat), 2*n-2, plain{new(big.Rat)})
	for i := range n - 1 {
		rows = append(rows, padding.plus(big.NewRat(1, 1), i, q))
	}
	for i := range n {
		rows = append(rows, padding.plus(big.NewRat(1, 1), i, derivative))
	}
	return determinant(rows).Sign() != 0
}

// check compares all functions with the oracle, for the modulus q.
func check(t *testing.T, q, a, b api.Poly) {
	t.Helper()
	m, x, y := toPlain(q), toPlain(a), toPlain(b)
	call := " of (" + text(a) + ") and (" + text(b) + ") modulo (" + text(q) + ")"
	mustBe(t, "Reduce"+call, quotient.Reduce(q, a), x.modulo(m).text())
	mustBe(t, "Mul"+call, quotient.Mul(q, a, b), x.times(y).modulo(m).text())
	mustBeNumber(t, "Trace"+call, quotient.Trace(q, a), plainTrace(m, x).RatString())
	norm := plainNorm(m, x)
	mustBeNumber(t, "Norm"+call, quotient.Norm(q, a), norm.RatString())
	mustBe(t, "Minimal"+call, quotient.Minimal(q, a), plainMinimal(m, x).text())
	if norm.Sign() == 0 {
		mustNotInvert(t, q, a)
		return
	}
	s, err := quotient.Inv(q, a)
	if err != api.OK || !poly.Valid(s) || len(s) >= len(q) || toPlain(s).times(x).modulo(m).text() != "1" {
		t.Fatalf("Inv%s = %s, %v", call, text(s), err)
	}
}

// coefficient returns a small fraction, or sometimes a longer one or 0.
func coefficient(r *rand.Rand) api.Rat {
	n, d := int64(r.Intn(19)-9), int64(1+r.Intn(6))
	switch r.Intn(10) {
	case 0, 1:
		n = 0
	case 2:
		n, d = r.Int63()-r.Int63(), 1+r.Int63n(1<<40)
	case 3, 4, 5:
		d = 1
	}
	c, err := rational.Of(integer.Of(n), integer.Of(d))
	if err != api.OK {
		panic(err)
	}
	return c
}

// nonzero returns such a number other than 0.
func nonzero(r *rand.Rand) api.Rat {
	for {
		if c := coefficient(r); rational.Sign(c) != 0 {
			return c
		}
	}
}

// sample returns a polynomial with at most the given number of coefficients.
func sample(r *rand.Rand, length int) api.Poly {
	var out api.Poly
	for range r.Intn(length + 1) {
		out = append(out, coefficient(r))
	}
	if len(out) > 0 {
		out[len(out)-1] = nonzero(r)
	}
	return out
}

// modulus returns a polynomial of positive degree without multiple roots, and one of its factors, which may be a constant or all of it.
func modulus(r *rand.Rand) (api.Poly, api.Poly) {
	for {
		factor, other := sample(r, 4), sample(r, 4)
		q := poly.Mul(factor, other)
		if l := poly.Squarefree(q); len(l) == 1 && l[0].N == 1 {
			return q, factor
		}
	}
}

// samples calls visit with moduli, and with two elements of each. Many elements have common roots with the modulus; many are not reduced.
func samples(seed int64, count int, visit func(r *rand.Rand, q, a, b api.Poly)) {
	r := rand.New(rand.NewSource(seed))
	for i := range count {
		q, factor := modulus(r)
		a, b := sample(r, 5), sample(r, 8)
		if i%3 == 0 {
			a = poly.Mul(a, factor)
		}
		visit(r, q, a, b)
	}
}

func TestAgainstOracle(t *testing.T) {
	samples(151, 1000, func(r *rand.Rand, q, a, b api.Poly) {
		check(t, q, a, b)
		check(t, q, b, a)
	})
}

func TestPowerAgainstOracle(t *testing.T) {
	samples(152, 300, func(r *rand.Rand, q, a, b api.Poly) {
		n := r.Intn(3 * len(q))
		if got, want := text(quotient.Power(q, n)), plainPower(toPlain(q), n).text(); got != want {
			t.Fatalf("Power of (%s) with n = %d is %s, want %s", text(q), n, got, want)
		}
	})
}

// small returns all polynomials of the given length at most whose coefficients are -1, 0 or 1: they have gaps, multiple roots and common roots in all combinations.
func small(length int) []api.Poly {
	codes := 1
	for range length {
		codes *= 3
	}
	var out []api.Poly
	for code := range codes {
		var p []api.Rat
		for range length {
			p = append(p, rational.Whole(int64(code%3)-1))
			code /= 3
		}
		out = append(out, poly.Trim(p))
	}
	return out
}

func TestSmallModuliAgainstOracle(t *testing.T) {
	one := of(t, "1 1")
	for _, q := range small(4) {
		if !plainValid(toPlain(q)) {
			continue
		}
		for _, a := range small(4) {
			check(t, q, a, one)
		}
		for n := range 8 {
			if got, want := text(quotient.Power(q, n)), plainPower(toPlain(q), n).text(); got != want {
				t.Fatalf("Power of (%s) with n = %d is %s, want %s", text(q), n, got, want)
			}
		}
	}
}

func TestValidAgainstOracle(t *testing.T) {
	mustAgree := func(q api.Poly) {
		if got, want := quotient.Valid(q), plainValid(toPlain(q)); got != want {
			t.Fatalf("Valid(%s) = %v", text(q), got)
		}
	}
	for _, q := range small(7) {
		mustAgree(q)
	}
	r := rand.New(rand.NewSource(153))
	for range 1000 {
		p, q := sample(r, 3), sample(r, 4)
		mustAgree(poly.Mul(p, q))
		mustAgree(poly.Mul(p, poly.Mul(p, q)))
	}
}
