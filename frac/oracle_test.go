package frac_test

import (
	"math/big"
	"math/rand"
	"strconv"
	"testing"

	"quadrature/api"
	"quadrature/frac"
	"quadrature/integer"
	"quadrature/mpoly"
	"quadrature/rational"
)

// The oracle computes with values at points, over the numbers of the standard library: rational functions that are different have different values almost everywhere, and polynomials in several variables with a common divisor have one almost everywhere with numbers in place of all variables but one.

// point has a number for each variable.
type point [4]*big.Rat

// points returns n points with coordinates of so many bits.
func points(r *rand.Rand, n, bits int) []point {
	out := make([]point, n)
	for i := range out {
		for v := range out[i] {
			out[i][v] = big.NewRat(r.Int63n(1<<bits)-1<<(bits-1), r.Int63n(1<<bits)+1)
		}
	}
	return out
}

// with returns the point with y for the variable v.
func (x point) with(v int, y *big.Rat) point {
	x[v] = y
	return x
}

// toBig returns a as a number of the standard library.
func toBig(a api.Rat) *big.Rat {
	x, ok := new(big.Rat).SetString(rational.Text(a))
	if !ok {
		panic("the text of a number is not one")
	}
	return x
}

// power returns the n-th power of x.
func power(x *big.Rat, n int) *big.Rat {
	e := big.NewInt(int64(n))
	a, b := new(big.Int).Exp(x.Num(), e, nil), new(big.Int).Exp(x.Denom(), e, nil)
	return new(big.Rat).SetFrac(a, b)
}

// valueOf returns the value of p at x.
func valueOf(p api.MPoly, x point) *big.Rat {
	sum := new(big.Rat)
	for _, term := range p {
		c := toBig(term.C)
		for v, n := range term.E {
			c.Mul(c, power(x[v], n))
		}
		sum.Add(sum, c)
	}
	return sum
}

// slopeOf returns the value of the partial derivative of p by v at x.
func slopeOf(p api.MPoly, v int, x point) *big.Rat {
	sum := new(big.Rat)
	for _, term := range p {
		n := term.E[v]
		if n == 0 {
			continue
		}
		term.E[v]--
		y := valueOf(api.MPoly{term}, x)
		sum.Add(sum, y.Mul(y, big.NewRat(int64(n), 1)))
	}
	return sum
}

// at returns the value of f at x, and nil if its denominator is 0 there.
func at(f api.Frac, x point) *big.Rat {
	n, d := valueOf(f.N, x), valueOf(f.D, x)
	if d.Sign() == 0 {
		return nil
	}
	return n.Quo(n, d)
}

// line returns the coefficients of p as a polynomial in v, with the coordinates of x in place of the other variables.
func line(p api.MPoly, v int, x point) []*big.Rat {
	var out []*big.Rat
	for _, term := range p {
		n := term.E[v]
		for len(out) <= n {
			out = append(out, new(big.Rat))
		}
		term.E[v] = 0
		out[n].Add(out[n], valueOf(api.MPoly{term}, x))
	}
	return trimmed(out)
}

// trimmed returns a without zeros at its end.
func trimmed(a []*big.Rat) []*big.Rat {
	for len(a) > 0 && a[len(a)-1].Sign() == 0 {
		a = a[:len(a)-1]
	}
	return a
}

// rest returns the remainder of a by b, which is not 0, up to a constant factor.
func rest(a, b []*big.Rat) []*big.Rat {
	for len(a) >= len(b) {
		c := new(big.Rat).Quo(a[len(a)-1], b[len(b)-1])
		shift := len(a) - len(b)
		for i, y := range b {
			a[shift+i] = new(big.Rat).Sub(a[shift+i], new(big.Rat).Mul(c, y))
		}
		a = trimmed(a)
	}
	for i := range a {
		a[i] = new(big.Rat).Quo(a[i], a[len(a)-1])
	}
	return a
}

// origin is where polynomials are compared for common divisors.
var origin = points(rand.New(rand.NewSource(299)), 1, 16)[0]

// coprime reports whether p and q, which are not 0, have no common divisor, by Euclid's algorithm for each variable.
func coprime(p, q api.MPoly) bool {
	for v := range 4 {
		a, b := line(p, v, origin), line(q, v, origin)
		for len(b) > 0 {
			a, b = b, rest(a, b)
		}
		if len(a) > 1 {
			return false
		}
	}
	return true
}

// isOne reports whether p is 1.
func isOne(p api.MPoly) bool { return samePoly(p, mpoly.Const(rational.Whole(1))) }

// canonical reports whether f is valid, by the definition of the chapter.
func canonical(f api.Frac) bool {
	if !mpoly.Valid(f.N) || !mpoly.Valid(f.D) || len(f.D) == 0 || !isOne(mpoly.Const(f.D[0].C)) {
		return false
	}
	return len(f.N) == 0 && isOne(f.D) || len(f.N) > 0 && coprime(f.N, f.D)
}

// mustHave checks that f is valid and has the value y at x. Where y is nil, there is none.
func mustHave(t *testing.T, call string, f api.Frac, x point, y *big.Rat) {
	t.Helper()
	if !canonical(f) {
		t.Fatalf("%s = %s is not valid", call, text(f))
	}
	if y == nil {
		return
	}
	if z := at(f, x); z == nil || z.Cmp(y) != 0 {
		t.Fatalf("%s = %s does not have the value %s", call, text(f), y.RatString())
	}
}

// coefficient returns a number, which is short in most cases, and never 0.
func coefficient(r *rand.Rand) api.Rat {
	n, d := r.Int63n(9)+1, int64(1)
	switch r.Intn(12) {
	case 0:
		n, d = r.Int63()|1, r.Int63()|1
	case 1, 2, 3:
		d = r.Int63n(6) + 1
	}
	if r.Intn(2) == 0 {
		n = -n
	}
	c, _ := rational.Of(integer.Of(n), integer.Of(d))
	return c
}

// sample returns a polynomial of up to the given number of terms and degree in the given variables.
func sample(r *rand.Rand, most, degree int, variables ...int) api.MPoly {
	var out []api.Mono
	for range r.Intn(most + 1) {
		x := api.Mono{C: coefficient(r)}
		for _, v := range variables {
			x.E[v] = r.Intn(degree + 1)
		}
		out = append(out, x)
	}
	return mpoly.Make(out)
}

// some returns a fraction whose numerator and denominator have so many terms, and multiple factors.
func some(r *rand.Rand, most, degree int, variables ...int) api.Frac {
	p := func() api.MPoly { return mpoly.Pow(sample(r, most, degree, variables...), 1+r.Intn(2)) }
	d := p()
	for len(d) == 0 {
		d = p()
	}
	f, _ := frac.Of(p(), d)
	return f
}

// variables returns some of them.
func variables(r *rand.Rand) []int { return r.Perm(4)[:1+r.Intn(3)] }

// checkField compares the operations of a field with the oracle.
func checkField(t *testing.T, a, b api.Frac, x point) {
	t.Helper()
	p, q := at(a, x), at(b, x)
	if p == nil || q == nil {
		return
	}
	on := " of " + text(a, b)
	mustHave(t, "Add"+on, frac.Add(a, b), x, new(big.Rat).Add(p, q))
	mustHave(t, "Sub"+on, frac.Sub(a, b), x, new(big.Rat).Sub(p, q))
	mustHave(t, "Mul"+on, frac.Mul(a, b), x, new(big.Rat).Mul(p, q))
	mustHave(t, "Neg"+on, frac.Neg(a), x, new(big.Rat).Neg(p))
	c, err := frac.Div(a, b)
	switch {
	case len(b.N) == 0:
		mustFail(t, "Div"+on, c, err, api.ErrZero)
	case err != api.OK:
		t.Fatalf("Div%s: %v", on, err)
	case q.Sign() != 0:
		mustHave(t, "Div"+on, c, x, new(big.Rat).Quo(p, q))
	}
	if frac.Zero(a) != (len(a.N) == 0) || frac.Equal(a, b) != same(a, b) {
		t.Fatalf("Zero or Equal is wrong for %s", text(a, b))
	}
}

// checkPower compares Pow with the oracle.
func checkPower(t *testing.T, a api.Frac, n int, x point) {
	t.Helper()
	call := "Pow of " + text(a) + " by " + strconv.Itoa(n)
	f, err := frac.Pow(a, n)
	if n < 0 && len(a.N) == 0 {
		mustFail(t, call, f, err, api.ErrZero)
		return
	}
	if err != api.OK {
		t.Fatalf("%s: %v", call, err)
	}
	y := at(a, x)
	if y == nil || n < 0 && y.Sign() == 0 {
		return
	}
	z := power(y, max(n, -n))
	if n < 0 {
		z.Inv(z)
	}
	mustHave(t, call, f, x, z)
}

// checkPartial compares Partial with the oracle.
func checkPartial(t *testing.T, a api.Frac, v int, x point) {
	t.Helper()
	f := frac.Partial(a, v)
	n, d := valueOf(a.N, x), valueOf(a.D, x)
	var y *big.Rat
	if d.Sign() != 0 {
		y = new(big.Rat).Mul(slopeOf(a.N, v, x), d)
		y.Sub(y, new(big.Rat).Mul(slopeOf(a.D, v, x), n))
		y.Quo(y, new(big.Rat).Mul(d, d))
	}
	mustHave(t, "Partial of "+text(a)+" by "+strconv.Itoa(v), f, x, y)
}

// checkSubst compares Subst, and Eval if b is a number, with the oracle. The points tell whether the denominator becomes zero.
func checkSubst(t *testing.T, a api.Frac, v int, b api.Frac, l []point) {
	t.Helper()
	call := "Subst of " + text(a) + " by " + strconv.Itoa(v) + " at " + text(b)
	f, err := frac.Subst(a, v, b)
	if len(b.D) == 1 && b.D[0].E == [4]int{} && (len(b.N) == 0 || b.N[0].E == [4]int{}) {
		c := rational.Whole(0)
		for _, term := range b.N {
			c = term.C
		}
		if g, again := frac.Eval(a, v, c); again != err || !same(f, g) {
			t.Fatalf("%s = %s with %v, and Eval has another result", call, text(f), err)
		}
	}
	zero := true
	for _, x := range l {
		y := at(b, x)
		if y == nil {
			continue
		}
		there := x.with(v, y)
		zero = zero && valueOf(a.D, there).Sign() == 0
		if z := at(a, there); z != nil && err == api.OK {
			mustHave(t, call, f, x, z)
		}
	}
	if zero {
		mustFail(t, call, f, err, api.ErrZero)
	} else if err != api.OK || !canonical(f) {
		t.Fatalf("%s = %s with %v", call, text(f), err)
	}
}

// checkTop compares Top with its definition.
func checkTop(t *testing.T, a api.Frac) {
	t.Helper()
	top := -1
	for v := range 4 {
		if mpoly.Deg(a.N, v) > 0 || mpoly.Deg(a.D, v) > 0 {
			top = v
		}
	}
	if v := frac.Top(a); v != top {
		t.Fatalf("Top of %s is %d, want %d", text(a), v, top)
	}
}

func TestOfAgainstOracle(t *testing.T) {
	r := rand.New(rand.NewSource(261))
	l := points(r, 1, 24)
	for range 3000 {
		in := variables(r)
		c := sample(r, 3, 2, in...)
		n, d := mpoly.Mul(sample(r, 4, 2, in...), c), mpoly.Mul(sample(r, 4, 2, in...), c)
		call := "Of " + polyText(n) + " and " + polyText(d)
		f, err := frac.Of(n, d)
		if len(d) == 0 {
			mustFail(t, call, f, err, api.ErrZero)
			continue
		}
		if err != api.OK || !frac.Valid(f) {
			t.Fatalf("%s = %s with %v", call, text(f), err)
		}
		mustHave(t, call, f, l[0], at(api.Frac{N: n, D: d}, l[0]))
		checkTop(t, f)
		// What is multiplied by a further factor is not valid, unless that is 1.
		further := api.Frac{N: mpoly.Mul(f.N, c), D: mpoly.Mul(f.D, c)}
		if frac.Valid(further) != canonical(further) {
			t.Fatalf("Valid of %s", text(further))
		}
	}
}

func TestAgainstOracle(t *testing.T) {
	r := rand.New(rand.NewSource(262))
	l := points(r, 2, 24)
	for range 800 {
		in := variables(r)
		a, b, c, v := some(r, 3, 2, in...), some(r, 3, 2, in...), some(r, 2, 1, in...), r.Intn(4)
		checkField(t, a, b, l[0])
		checkPower(t, b, r.Intn(7)-3, l[0])
		checkPartial(t, a, v, l[0])
		checkPartial(t, frac.Mul(a, b), v, l[0])
		checkSubst(t, c, v, b, l)
		checkSubst(t, a, in[0], c, l)
		checkSubst(t, a, in[0], frac.Const(coefficient(r)), l)
		checkTop(t, a)
	}
}

// small returns the polynomials whose terms are those of s, with coefficients -1, 0 and 1.
func small(t *testing.T, s string) []api.MPoly {
	out := []api.MPoly{nil}
	for _, x := range poly(t, s) {
		for _, p := range out[:len(out):len(out)] {
			for _, c := range []int64{-1, 1} {
				out = append(out, mpoly.Add(p, api.MPoly{{E: x.E, C: rational.Whole(c)}}))
			}
		}
	}
	return out
}

// quotients returns all fractions of the polynomials in l, once each.
func quotients(l []api.MPoly) []api.Frac {
	var out []api.Frac
	seen := map[string]bool{}
	for _, n := range l {
		for _, d := range l {
			f, err := frac.Of(n, d)
			if s := text(f); err == api.OK && !seen[s] {
				seen[s] = true
				out = append(out, f)
			}
		}
	}
	return out
}

func TestSmallFractionsAgainstOracle(t *testing.T) {
	x := points(rand.New(rand.NewSource(263)), 2, 24)
	for _, s := range []string{"x + 1", "y + x", "x y + 1", "x^2 + x"} {
		all := quotients(small(t, s))
		for _, a := range all {
			for v := range 4 {
				checkPartial(t, a, v, x[0])
			}
			for n := -4; n <= 4; n++ {
				checkPower(t, a, n, x[0])
			}
			for _, b := range all {
				checkField(t, a, b, x[0])
				checkSubst(t, a, 0, b, x)
				checkSubst(t, a, 1, b, x)
			}
		}
	}
}

func TestManySmallFractionsAgainstOracle(t *testing.T) {
	x := points(rand.New(rand.NewSource(264)), 2, 24)
	for _, s := range []string{"x^2 + x + 1", "y + x + 1", "x y + x + 1", "w z + w + z"} {
		all := quotients(small(t, s))
		for i, a := range all {
			b := all[i*i%len(all)]
			checkField(t, a, b, x[0])
			for v := range 4 {
				checkPartial(t, a, v, x[0])
				checkPartial(t, frac.Mul(a, b), v, x[0])
				checkSubst(t, a, v, b, x)
				checkSubst(t, b, v, a, x)
			}
		}
	}
}
