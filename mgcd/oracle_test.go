package mgcd_test

import (
	"math/big"
	"math/rand"
	"slices"
	"strconv"
	"testing"

	"quadrature/api"
	"quadrature/integer"
	"quadrature/mgcd"
	"quadrature/rational"
)

// toBig returns a as a number of the standard library, which serves as the oracle.
func toBig(a api.Rat) *big.Rat {
	x, ok := new(big.Rat).SetString(rational.Text(a))
	if !ok {
		panic("the text of a number is not one")
	}
	return x
}

// fromBig returns the number of this program with the value of a.
func fromBig(a *big.Rat) api.Rat {
	n, _ := integer.Read(a.Num().String())
	d, _ := integer.Read(a.Denom().String())
	c, err := rational.Of(n, d)
	if err != api.OK {
		panic("a denominator is 0")
	}
	return c
}

// plain is a polynomial of the oracle: coefficients other than 0 by their exponents.
type plain map[[4]int]*big.Rat

// toPlain returns p in the form of the oracle.
func toPlain(p []api.Mono) plain {
	out := plain{}
	for _, x := range p {
		out.add(x.E, toBig(x.C))
	}
	return out
}

// polynomial returns p in the form of the program.
func (p plain) polynomial() api.MPoly {
	var out api.MPoly
	for e, c := range p {
		out = append(out, api.Mono{E: e, C: fromBig(c)})
	}
	slices.SortFunc(out, func(x, y api.Mono) int {
		if greater(x.E, y.E) {
			return -1
		}
		return 1
	})
	return out
}

// add adds a term to p.
func (p plain) add(e [4]int, c *big.Rat) {
	sum := new(big.Rat).Set(c)
	if old, ok := p[e]; ok {
		sum.Add(sum, old)
	}
	if sum.Sign() == 0 {
		delete(p, e)
		return
	}
	p[e] = sum
}

// plus returns p + c q.
func (p plain) plus(c *big.Rat, q plain) plain {
	out := plain{}
	for e, x := range p {
		out.add(e, x)
	}
	for e, x := range q {
		out.add(e, new(big.Rat).Mul(x, c))
	}
	return out
}

// times returns p q.
func (p plain) times(q plain) plain {
	out := plain{}
	for e, x := range p {
		for f, y := range q {
			g := [4]int{e[0] + f[0], e[1] + f[1], e[2] + f[2], e[3] + f[3]}
			out.add(g, new(big.Rat).Mul(x, y))
		}
	}
	return out
}

// degree returns the degree of p in v.
func (p plain) degree(v int) int {
	n := -1
	for e := range p {
		n = max(n, e[v])
	}
	return n
}

// coefficient returns the coefficient of v^n.
func (p plain) coefficient(v, n int) plain {
	out := plain{}
	for e, x := range p {
		if e[v] == n {
			e[v] = 0
			out.add(e, x)
		}
	}
	return out
}

// partial returns the partial derivative of p by v.
func (p plain) partial(v int) plain {
	out := plain{}
	for e, x := range p {
		c := new(big.Rat).Mul(x, big.NewRat(int64(e[v]), 1))
		e[v]--
		out.add(e, c)
	}
	return out
}

// stretch returns p with all exponents multiplied by the factor, but for those of v.
func (p plain) stretch(v, factor int) plain {
	out := plain{}
	for e, x := range p {
		for w := range e {
			if w != v {
				e[w] *= factor
			}
		}
		out[e] = x
	}
	return out
}

// first returns the first term.
func (p plain) first() ([4]int, *big.Rat) {
	var first [4]int
	for e := range p {
		if greater(e, first) {
			first = e
		}
	}
	return first, p[first]
}

// normal returns p divided by its first coefficient.
func (p plain) normal() plain {
	if len(p) == 0 {
		return p
	}
	_, c := p.first()
	return plain{}.plus(new(big.Rat).Inv(c), p)
}

// by returns the quotient of p and q, if there is one, by long division.
func (p plain) by(q plain) (plain, bool) {
	if len(q) == 0 {
		return nil, false
	}
	out := plain{}
	f, y := q.first()
	for len(p) > 0 {
		e, x := p.first()
		g := [4]int{e[0] - f[0], e[1] - f[1], e[2] - f[2], e[3] - f[3]}
		if slices.Min(g[:]) < 0 {
			return nil, false
		}
		step := plain{g: new(big.Rat).Quo(x, y)}
		out = out.plus(big.NewRat(1, 1), step)
		p = p.plus(big.NewRat(-1, 1), step.times(q))
	}
	return out, true
}

// remainder returns the pseudo-remainder of p by q in v, for q other than 0.
func (p plain) remainder(q plain, v int) plain {
	n := q.degree(v)
	c := q.coefficient(v, n)
	for k := p.degree(v); k >= n; k-- {
		var e [4]int
		e[v] = k - n
		step := p.coefficient(v, k).times(plain{e: big.NewRat(-1, 1)})
		p = c.times(p).plus(big.NewRat(1, 1), step.times(q))
	}
	return p
}

// content returns the normal greatest common divisor of the coefficients by v.
func (p plain) content(v int) plain {
	out := plain{}
	for n := range p.degree(v) + 1 {
		out = out.gcd(p.coefficient(v, n))
	}
	return out
}

// primitive returns p divided by its content.
func (p plain) primitive(v int) plain {
	if len(p) == 0 {
		return p
	}
	q, ok := p.by(p.content(v))
	if !ok {
		panic("a content is no divisor")
	}
	return q
}

// gcd returns the normal greatest common divisor of p and q, by Euclid's algorithm with primitive pseudo-remainders in the highest variable.
func (p plain) gcd(q plain) plain {
	v := 3
	for v >= 0 && p.degree(v) < 1 && q.degree(v) < 1 {
		v--
	}
	switch {
	case len(p) == 0:
		return q.normal()
	case len(q) == 0:
		return p.normal()
	case v < 0:
		return plain{{}: big.NewRat(1, 1)}
	}
	c := p.content(v).gcd(q.content(v))
	a, b := p.primitive(v), q.primitive(v)
	for len(b) > 0 {
		a, b = b, a.remainder(b, v).primitive(v)
	}
	return c.times(a).normal()
}

// resultant returns the determinant of Sylvester's matrix of p and q, which are not 0, as the chapter defines it.
func (p plain) resultant(q plain, v int) plain {
	m, n := p.degree(v), q.degree(v)
	var rows [][]plain
	for i := range n {
		rows = append(rows, p.row(v, m, i, m+n))
	}
	for i := range m {
		rows = append(rows, q.row(v, n, i, m+n))
	}
	return determinant(rows)
}

// row returns the coefficients of p, whose degree is m, from the highest one down, in a row of the given length. The first one is in column i.
func (p plain) row(v, m, i, length int) []plain {
	out := make([]plain, length)
	for k := range m + 1 {
		out[i+k] = p.coefficient(v, m-k)
	}
	return out
}

// determinant returns the determinant of the rows, by expansion along the first column.
func determinant(rows [][]plain) plain {
	if len(rows) == 0 {
		return plain{{}: big.NewRat(1, 1)}
	}
	out := plain{}
	for i, row := range rows {
		if len(row[0]) == 0 {
			continue
		}
		var rest [][]plain
		for k, other := range rows {
			if k != i {
				rest = append(rest, other[1:])
			}
		}
		sign := big.NewRat(int64(1-i%2*2), 1)
		out = out.plus(sign, row[0].times(determinant(rest)))
	}
	return out
}

// coefficient returns a number, which is short in most cases, and never 0.
func coefficient(r *rand.Rand) api.Rat {
	n, d := int64(r.Intn(9)+1), int64(1)
	switch r.Intn(16) {
	case 0:
		n, d = r.Int63()|1, r.Int63()|1
	case 1, 2, 3:
		d = int64(r.Intn(6) + 1)
	}
	if r.Intn(2) == 0 {
		n = -n
	}
	c, _ := rational.Of(integer.Of(n), integer.Of(d))
	return c
}

// sample returns a polynomial of up to the given number of terms and degree in the given variables.
func sample(r *rand.Rand, most, degree int, variables ...int) api.MPoly {
	var out []api.Mono
	for range r.Intn(most + 1) {
		x := api.Mono{C: coefficient(r)}
		for _, v := range variables {
			x.E[v] = r.Intn(degree + 1)
		}
		out = append(out, x)
	}
	return toPlain(out).polynomial()
}

// small returns all polynomials whose terms are among the given ones, with coefficients -1, 0 and 1.
func small(t *testing.T, monomials string) []api.MPoly {
	out := []api.MPoly{nil}
	for _, x := range terms(t, monomials) {
		for _, p := range out[:len(out):len(out)] {
			for _, c := range []int64{-1, 1} {
				q := append(slices.Clone(p), api.Mono{E: x.E, C: rational.Whole(c)})
				out = append(out, q)
			}
		}
	}
	return out
}

// checkOne compares the functions of one polynomial with the oracle.
func checkOne(t *testing.T, a api.MPoly, v int) {
	t.Helper()
	p := toPlain(a)
	call := " of " + text(a) + " by " + strconv.Itoa(v)
	mustBe(t, "Normal"+call, mgcd.Normal(a), p.normal().polynomial())
	mustBe(t, "Content"+call, mgcd.Content(a, v), p.content(v).polynomial())
	mustBe(t, "Primitive"+call, mgcd.Primitive(a, v), p.primitive(v).polynomial())
	checkFactors(t, a, v)
}

// checkFactors checks that Squarefree returns what the chapter defines, which is unique.
func checkFactors(t *testing.T, a api.MPoly, v int) {
	t.Helper()
	l := mgcd.Squarefree(a, v)
	call := "Squarefree of " + text(a) + " by " + strconv.Itoa(v) + " is " + list(l)
	product := plain{{}: big.NewRat(1, 1)}
	for i, f := range l {
		p := toPlain(f.P)
		_, c := p.first()
		if !isValid(f.P) || p.degree(v) < 1 || c.Cmp(big.NewRat(1, 1)) != 0 || f.N < 1 || i > 0 && f.N <= l[i-1].N {
			t.Fatalf("%s: factor %d is not normal, or has no degree, or a wrong exponent", call, i)
		}
		if p.gcd(p.partial(v)).degree(v) > 0 {
			t.Fatalf("%s: factor %d is not squarefree", call, i)
		}
		for _, g := range l[:i] {
			if len(p.gcd(toPlain(g.P))) != 1 {
				t.Fatalf("%s: factor %d is not coprime with another one", call, i)
			}
		}
		for range f.N {
			product = product.times(p)
		}
	}
	want := toPlain(a).primitive(v).normal()
	if want.degree(v) < 1 {
		want = plain{{}: big.NewRat(1, 1)}
		if len(l) > 0 {
			t.Fatalf("%s: there are factors without a degree", call)
		}
	}
	mustBe(t, call+": the product", product.polynomial(), want.polynomial())
}

// checkPair compares the functions of two polynomials with the oracle.
func checkPair(t *testing.T, a, b api.MPoly, v int) {
	t.Helper()
	p, q := toPlain(a), toPlain(b)
	mustShare(t, a, b, p.gcd(q).polynomial())
	want := plain{}
	if len(p) > 0 && len(q) > 0 {
		want = p.resultant(q, v)
	}
	checkResultant(t, a, b, v, want)
	// With large exponents, it is found in another way.
	for _, factor := range []int{30, 4000000, 1000000000} {
		checkResultant(t, p.stretch(v, factor).polynomial(), q.stretch(v, factor).polynomial(), v, want.stretch(v, factor))
	}
}

// checkResultant checks a resultant.
func checkResultant(t *testing.T, a, b api.MPoly, v int, want plain) {
	t.Helper()
	mustBe(t, "Resultant of "+texts(a, b)+" by "+strconv.Itoa(v), mgcd.Resultant(a, b, v), want.polynomial())
}

func TestAgainstOracle(t *testing.T) {
	r := rand.New(rand.NewSource(221))
	for range 1500 {
		in := r.Perm(4)[:1+r.Intn(2)]
		v := in[0]
		a, b, c := sample(r, 4, 2, in...), sample(r, 4, 2, in...), sample(r, 2, 1, in...)
		checkPair(t, a, b, v)
		checkOne(t, a, v)
		ac, bc := toPlain(a).times(toPlain(c)), toPlain(b).times(toPlain(c))
		checkPair(t, ac.polynomial(), bc.polynomial(), v)
		checkOne(t, ac.times(toPlain(c)).polynomial(), v)
	}
}

func TestManyVariablesAgainstOracle(t *testing.T) {
	r := rand.New(rand.NewSource(222))
	for range 1500 {
		in := r.Perm(4)[:3+r.Intn(2)]
		a, b, c := sample(r, 3, 1, in...), sample(r, 2, 1, in...), sample(r, 2, 1, in...)
		checkPair(t, a, b, in[0])
		ac, bc := toPlain(a).times(toPlain(c)), toPlain(b).times(toPlain(c))
		mustShare(t, ac.polynomial(), bc.polynomial(), ac.gcd(bc).polynomial())
		checkOne(t, ac.polynomial(), in[0])
	}
}

func TestSmallPolynomialsAgainstOracle(t *testing.T) {
	for _, l := range []string{"x^3 + x^2 + x + 1", "x y + y + x + 1"} {
		all := small(t, l)
		for _, a := range all {
			checkOne(t, a, 0)
			checkOne(t, a, 1)
			for _, b := range all {
				checkPair(t, a, b, 0)
			}
		}
	}
}

func TestPairsOfVariablesAgainstOracle(t *testing.T) {
	for _, l := range []string{"w + y + 1", "x w + w + x", "z^2 + y z + y^2", "z w + w + z"} {
		all := small(t, l)
		for _, a := range all {
			for v := range 4 {
				checkOne(t, a, v)
			}
			for i, b := range all {
				checkPair(t, a, b, i%4)
			}
		}
	}
}
