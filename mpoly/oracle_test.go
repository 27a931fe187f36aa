package mpoly_test

import (
	"math/big"
	"math/rand"
	"slices"
	"strconv"
	"testing"

	"quadrature/api"
	"quadrature/integer"
	"quadrature/mpoly"
	"quadrature/rational"
)

// toBig returns a as a number of the standard library, which serves as the oracle.
func toBig(a api.Rat) *big.Rat {
	x, ok := new(big.Rat).SetString(rational.Text(a))
	if !ok {
		panic("the text of a number is not one")
	}
	return x
}

// fromBig returns the number of this program with the value of a.
func fromBig(a *big.Rat) api.Rat {
	n, _ := integer.Read(a.Num().String())
	d, _ := integer.Read(a.Denom().String())
	c, err := rational.Of(n, d)
	if err != api.OK {
		panic("a denominator is 0")
	}
	return c
}

// plain is a polynomial of the oracle: coefficients other than 0 by their exponents.
type plain map[[4]int]*big.Rat

// toPlain returns p in the form of the oracle.
func toPlain(p []api.Mono) plain {
	out := plain{}
	for _, x := range p {
		if slices.Min(x.E[:]) >= 0 {
			out.add(x.E, toBig(x.C))
		}
	}
	return out
}

// text returns the notation of p.
func (p plain) text() string {
	var out api.MPoly
	for e, c := range p {
		out = append(out, api.Mono{E: e, C: fromBig(c)})
	}
	slices.SortFunc(out, descending)
	return text(out)
}

// descending compares terms such that they are sorted into their order.
func descending(x, y api.Mono) int {
	if greater(x.E, y.E) {
		return -1
	}
	return 1
}

// add adds a term to p.
func (p plain) add(e [4]int, c *big.Rat) {
	sum := new(big.Rat).Set(c)
	if old, ok := p[e]; ok {
		sum.Add(sum, old)
	}
	if sum.Sign() == 0 {
		delete(p, e)
		return
	}
	p[e] = sum
}

// plus returns p + c q.
func (p plain) plus(c int64, q plain) plain {
	out := plain{}
	for e, x := range p {
		out.add(e, x)
	}
	for e, x := range q {
		out.add(e, new(big.Rat).Mul(x, big.NewRat(c, 1)))
	}
	return out
}

// times returns p q.
func (p plain) times(q plain) plain {
	out := plain{}
	for e, x := range p {
		for f, y := range q {
			g := [4]int{e[0] + f[0], e[1] + f[1], e[2] + f[2], e[3] + f[3]}
			out.add(g, new(big.Rat).Mul(x, y))
		}
	}
	return out
}

// power returns the n-th power of p, and 0 if n is negative.
func (p plain) power(n int) plain {
	out := plain{}
	if n >= 0 {
		out.add([4]int{}, big.NewRat(1, 1))
	}
	for range n {
		out = out.times(p)
	}
	return out
}

// degree returns the degree of p in v.
func (p plain) degree(v int) int {
	n := -1
	for e := range p {
		n = max(n, e[v])
	}
	return n
}

// coefficient returns the coefficient of v^n.
func (p plain) coefficient(v, n int) plain {
	out := plain{}
	for e, x := range p {
		if e[v] == n {
			e[v] = 0
			out.add(e, x)
		}
	}
	return out
}

// variable returns the n-th power of the variable v.
func variable(v, n int) plain {
	var e [4]int
	e[v] = n
	return plain{e: big.NewRat(1, 1)}
}

// partial returns the partial derivative of p by v.
func (p plain) partial(v int) plain {
	out := plain{}
	for e, x := range p {
		c := new(big.Rat).Mul(x, big.NewRat(int64(e[v]), 1))
		e[v]--
		out.add(e, c)
	}
	return out
}

// with returns p with q for v.
func (p plain) with(v int, q plain) plain {
	out := plain{}
	for n := range p.degree(v) + 1 {
		out = out.plus(1, p.coefficient(v, n).times(q.power(n)))
	}
	return out
}

// first returns the first term in an order that is not that of the program.
func (p plain) first() ([4]int, *big.Rat) {
	var first [4]int
	for e := range p {
		if slices.Compare(e[:], first[:]) > 0 {
			first = e
		}
	}
	return first, p[first]
}

// by returns the quotient of p and q, if there is one, by long division.
func (p plain) by(q plain) (plain, bool) {
	if len(q) == 0 {
		return nil, false
	}
	out := plain{}
	f, y := q.first()
	for len(p) > 0 {
		e, x := p.first()
		g := [4]int{e[0] - f[0], e[1] - f[1], e[2] - f[2], e[3] - f[3]}
		if slices.Min(g[:]) < 0 {
			return nil, false
		}
		step := plain{g: new(big.Rat).Quo(x, y)}
		out = out.plus(1, step)
		p = p.plus(-1, step.times(q))
	}
	return out, true
}

// remainder returns the pseudo-remainder of p by q in v, for q other than 0.
func (p plain) remainder(q plain, v int) plain {
	m, n := p.degree(v), q.degree(v)
	c := q.coefficient(v, n)
	for k := m; k >= n; k-- {
		p = c.times(p).plus(-1, p.coefficient(v, k).times(variable(v, k-n)).times(q))
	}
	return p
}

// coefficient returns a number, which is short in most cases, and never 0.
func coefficient(r *rand.Rand) api.Rat {
	n, d := int64(r.Intn(9)+1), int64(1)
	switch r.Intn(8) {
	case 0:
		n, d = r.Int63()|1, r.Int63()|1
	case 1, 2, 3:
		d = int64(r.Intn(6) + 1)
	}
	if r.Intn(2) == 0 {
		n = -n
	}
	c, _ := rational.Of(integer.Of(n), integer.Of(d))
	return c
}

// random returns up to the given number of terms in some of the variables, as they come.
func random(r *rand.Rand, most int) []api.Mono {
	var out []api.Mono
	in := r.Intn(16)
	for range r.Intn(most + 1) {
		x := api.Mono{C: coefficient(r)}
		for v := range 4 {
			if in>>v&1 == 1 {
				x.E[v] = r.Intn(4)
			}
		}
		out = append(out, x)
	}
	return out
}

// sample returns a polynomial of up to the given number of terms. It does not need the program to put them into their order.
func sample(r *rand.Rand, most int) api.MPoly {
	var out api.MPoly
	for e, c := range toPlain(random(r, most)) {
		out = append(out, api.Mono{E: e, C: fromBig(c)})
	}
	slices.SortFunc(out, descending)
	return out
}

// small returns all polynomials whose terms are among the given ones, with coefficients -1, 0 and 1.
func small(t *testing.T, monomials string) []api.MPoly {
	out := []api.MPoly{nil}
	for _, x := range terms(t, monomials) {
		for _, p := range out[:len(out):len(out)] {
			for _, c := range []int64{-1, 1} {
				q := append(slices.Clone(p), api.Mono{E: x.E, C: rational.Whole(c)})
				out = append(out, q)
			}
		}
	}
	return out
}

// checkPair compares the functions of two polynomials with the oracle.
func checkPair(t *testing.T, a, b api.MPoly, variables ...int) {
	t.Helper()
	x, y := toPlain(a), toPlain(b)
	call := " of " + text(a) + " and " + text(b)
	mustBe(t, "Add"+call, mpoly.Add(a, b), x.plus(1, y).text())
	mustBe(t, "Sub"+call, mpoly.Sub(a, b), x.plus(-1, y).text())
	mustBe(t, "Mul"+call, mpoly.Mul(a, b), x.times(y).text())
	if mpoly.Equal(a, b) != (text(a) == text(b)) {
		t.Fatalf("Equal%s is wrong", call)
	}
	want := ""
	if q, ok := x.by(y); ok {
		want = q.text()
	}
	mustDivide(t, a, b, want)
	for _, v := range variables {
		mustBe(t, "Subst"+call, mpoly.Subst(a, v, b), x.with(v, y).text())
		if len(b) > 0 {
			mustLeave(t, a, b, v, x.remainder(y, v).text())
		}
	}
}

// checkOne compares the functions of one polynomial with the oracle.
func checkOne(t *testing.T, a api.MPoly, c api.Rat, variables ...int) {
	t.Helper()
	x, number := toPlain(a), plain{}
	number.add([4]int{}, toBig(c))
	call := " of " + text(a)
	mustBe(t, "Scale"+call, mpoly.Scale(a, c), x.times(number).text())
	for n := -1; n < 5; n++ {
		mustBe(t, "Pow "+strconv.Itoa(n)+call, mpoly.Pow(a, n), x.power(n).text())
	}
	for _, v := range variables {
		if mpoly.Deg(a, v) != x.degree(v) {
			t.Fatalf("Deg%s by %d = %d", call, v, mpoly.Deg(a, v))
		}
		l := mpoly.Coeffs(a, v)
		if len(l) != x.degree(v)+1 {
			t.Fatalf("Coeffs%s by %d has %d elements", call, v, len(l))
		}
		for i, p := range l {
			mustBe(t, "a coefficient"+call, p, x.coefficient(v, i).text())
		}
		mustBe(t, "Partial"+call, mpoly.Partial(a, v), x.partial(v).text())
		mustBe(t, "Eval"+call, mpoly.Eval(a, v, c), x.with(v, number).text())
	}
}

func TestAgainstOracle(t *testing.T) {
	r := rand.New(rand.NewSource(191))
	for range 1500 {
		a, b := sample(r, 6), sample(r, 4)
		checkPair(t, a, b, r.Intn(4))
		checkOne(t, a, coefficient(r), 0, 1, 2, 3)
		c := mpoly.Mul(a, b)
		q, want := toPlain(c), ""
		if len(b) > 0 {
			want = text(a)
		}
		if q.text() != text(c) {
			t.Fatalf("%s is not in its order", text(c))
		}
		mustDivide(t, c, b, want)
	}
}

func TestMakeAgainstOracle(t *testing.T) {
	r := rand.New(rand.NewSource(192))
	for range 1500 {
		l := append(random(r, 6), random(r, 6)...)
		for range r.Intn(4) {
			x := api.Mono{C: rational.Whole(int64(r.Intn(3)))}
			x.E[r.Intn(4)] = r.Intn(4) - 2
			l = append(l, x)
		}
		for _, x := range random(r, 3) {
			l = append(l, x, api.Mono{E: x.E, C: rational.Neg(x.C)})
		}
		r.Shuffle(len(l), func(i, k int) { l[i], l[k] = l[k], l[i] })
		mustBe(t, "Make of "+text(l), mpoly.Make(l), toPlain(l).text())
	}
}

func TestFromAgainstOracle(t *testing.T) {
	r := rand.New(rand.NewSource(193))
	for range 1500 {
		var l []api.MPoly
		v, want := r.Intn(4), plain{}
		for i := range r.Intn(6) {
			p := sample(r, 3)
			l = append(l, p)
			want = want.plus(1, toPlain(p).times(variable(v, i)))
		}
		mustBe(t, "From of "+texts(l), mpoly.From(l, v), want.text())
	}
}

func TestSmallPolynomialsAgainstOracle(t *testing.T) {
	one := small(t, "x^3 + x^2 + x + 1")
	for _, a := range one {
		checkOne(t, a, number(t, "-2/3"), 0)
		for _, b := range one {
			checkPair(t, a, b, 0)
		}
	}
	two := small(t, "x y + y + x + 1")
	for _, a := range two {
		checkOne(t, a, number(t, "3"), 0, 1)
		for _, b := range two {
			checkPair(t, a, b, 0, 1)
		}
	}
}

func TestPairsOfVariablesAgainstOracle(t *testing.T) {
	for _, l := range []string{"w + y + 1", "w + x + 1", "z + y + 1", "z w + w + z"} {
		all := small(t, l)
		for _, a := range all {
			checkOne(t, a, number(t, "-1/2"), 0, 1, 2, 3)
			for _, b := range all {
				checkPair(t, a, b, 1, 2, 3)
			}
		}
	}
}
