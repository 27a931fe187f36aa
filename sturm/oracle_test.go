package sturm_test

import (
	"math/big"
	"math/rand"
	"testing"

	"quadrature/api"
	"quadrature/integer"
	"quadrature/poly"
	"quadrature/rational"
	"quadrature/sturm"
)

// toBig returns a as a number of the standard library, which serves as the oracle.
func toBig(a api.Rat) *big.Rat {
	out, ok := new(big.Rat).SetString(rational.Text(a))
	if !ok {
		panic("the text of a number is not one")
	}
	return out
}

// fromBig returns the number of this program with the value of a.
func fromBig(a *big.Rat) api.Rat {
	var parts [2]api.Int
	for i, n := range []*big.Int{a.Num(), a.Denom()} {
		for _, digit := range n.Text(10) {
			if digit != '-' {
				parts[i] = integer.Add(integer.Mul(parts[i], integer.Of(10)), integer.Of(int64(digit-'0')))
			}
		}
	}
	if a.Sign() < 0 {
		parts[0] = integer.Neg(parts[0])
	}
	return api.Rat{Num: parts[0], Den: parts[1]}
}

// plain is a polynomial over the numbers of the standard library, without zeros at its end.
type plain []*big.Rat

// toPlain returns p in the form of the oracle.
func toPlain(p api.Poly) plain {
	out := plain{}
	for _, c := range p {
		out = append(out, toBig(c))
	}
	return out
}

// fromPlain returns p in the form of the program.
func fromPlain(p plain) api.Poly {
	var out api.Poly
	for _, c := range p {
		out = append(out, fromBig(c))
	}
	return out
}

// divided returns the quotient of p and q, and the remainder with its sign changed.
func (p plain) divided(q plain) (plain, plain) {
	rest, quotient := make(plain, len(p)), make(plain, max(len(p)-len(q)+1, 0))
	for i, c := range p {
		rest[i] = new(big.Rat).Set(c)
	}
	for i := len(quotient) - 1; i >= 0; i-- {
		quotient[i] = new(big.Rat).Quo(rest[i+len(q)-1], q[len(q)-1])
		for k, c := range q {
			rest[i+k].Sub(rest[i+k], new(big.Rat).Mul(quotient[i], c))
		}
	}
	for _, c := range rest {
		c.Neg(c)
	}
	for len(rest) > 0 && rest[len(rest)-1].Sign() == 0 {
		rest = rest[:len(rest)-1]
	}
	return quotient, rest
}

// plainChain is the Sturm chain of p, word for word as the chapter defines it.
func plainChain(p plain) []plain {
	var derivative plain
	for i := 1; i < len(p); i++ {
		derivative = append(derivative, new(big.Rat).Mul(big.NewRat(int64(i), 1), p[i]))
	}
	var out []plain
	for a, b := p, derivative; len(a) > 0; {
		out = append(out, a)
		if len(b) == 0 {
			break
		}
		_, next := a.divided(b)
		a, b = b, next
	}
	return out
}

// plainVariations returns the number of changes of sign at c.
func plainVariations(chain []plain, c *big.Rat) int {
	var signs []int
	for _, p := range chain {
		value := new(big.Rat)
		for i := len(p) - 1; i >= 0; i-- {
			value.Add(value.Mul(value, c), p[i])
		}
		if value.Sign() != 0 {
			signs = append(signs, value.Sign())
		}
	}
	changes := 0
	for i := 1; i < len(signs); i++ {
		if signs[i] != signs[i-1] {
			changes++
		}
	}
	return changes
}

// plainCount is Sturm's theorem for the squarefree part of p.
func plainCount(p plain, lo, hi *big.Rat) int {
	if len(p) == 0 || lo.Cmp(hi) >= 0 {
		return 0
	}
	chain := plainChain(p)
	squarefree, _ := p.divided(chain[len(chain)-1])
	chain = plainChain(squarefree)
	return plainVariations(chain, lo) - plainVariations(chain, hi)
}

// plainBound returns the least integer that is not less than 1 + max |a_i / a_n|.
func plainBound(p plain) *big.Int {
	if len(p) < 2 {
		return new(big.Int)
	}
	largest := new(big.Rat)
	for _, c := range p[:len(p)-1] {
		if q := new(big.Rat).Quo(c, p[len(p)-1]); q.Abs(q).Cmp(largest) > 0 {
			largest = q
		}
	}
	out := big.NewInt(1)
	for new(big.Rat).SetInt(out).Cmp(new(big.Rat).Add(largest, big.NewRat(1, 1))) < 0 {
		// The difference, rounded down, may leave one step more.
		gap := new(big.Rat).Sub(new(big.Rat).Add(largest, big.NewRat(1, 1)), new(big.Rat).SetInt(out))
		step := new(big.Int).Div(gap.Num(), gap.Denom())
		if step.Sign() == 0 {
			step.SetInt64(1)
		}
		out.Add(out, step)
	}
	return out
}

// coefficient returns a small fraction, or sometimes a longer one or 0.
func coefficient(r *rand.Rand) api.Rat {
	n, d := int64(r.Intn(19)-9), int64(1+r.Intn(6))
	switch r.Intn(9) {
	case 0, 1:
		n = 0
	case 2:
		n, d = r.Int63()-r.Int63(), 1+r.Int63()
	case 3, 4, 5:
		d = 1
	}
	c, err := rational.Of(integer.Of(n), integer.Of(d))
	if err != api.OK {
		panic(err)
	}
	return c
}

// nonzero returns such a number other than 0.
func nonzero(r *rand.Rand) api.Rat {
	for {
		if c := coefficient(r); rational.Sign(c) != 0 {
			return c
		}
	}
}

// sample returns a polynomial with at most the given number of coefficients; some have multiple roots.
func sample(r *rand.Rand, length int) api.Poly {
	var p api.Poly
	for range r.Intn(length + 1) {
		p = append(p, coefficient(r))
	}
	if len(p) > 0 {
		p[len(p)-1] = nonzero(r)
	}
	if r.Intn(3) == 0 {
		q := api.Poly{coefficient(r), nonzero(r)}
		p = poly.Mul(p, poly.Mul(q, q))
	}
	return p
}

// check compares all that concerns the chain of p with the oracle.
func check(t *testing.T, p api.Poly, ends []api.Rat) {
	t.Helper()
	x := toPlain(p)
	var want []api.Poly
	for _, q := range plainChain(x) {
		want = append(want, fromPlain(q))
	}
	mustChain(t, p, textOfChain(want))
	mustBound(t, p, plainBound(x).String())
	for _, lo := range ends {
		for _, hi := range ends {
			mustCount(t, p, lo, hi, plainCount(x, toBig(lo), toBig(hi)))
		}
	}
}

func TestAgainstOracle(t *testing.T) {
	r := rand.New(rand.NewSource(41))
	for range 600 {
		p := sample(r, 8)
		check(t, p, append(sturm.Rationals(p), coefficient(r), coefficient(r)))
	}
}

// small calls visit with all polynomials below the given degree whose coefficients are -1, 0 or 1: they have gaps, zeros, multiple roots and constants in all combinations.
func small(degree int, visit func(p api.Poly)) {
	codes := 1
	for range degree {
		codes *= 3
	}
	for code := range codes {
		var p []api.Rat
		for k := code; len(p) < degree; k /= 3 {
			p = append(p, rational.Whole(int64(k%3)-1))
		}
		visit(poly.Trim(p))
	}
}

func TestSmallPolynomialsAgainstOracle(t *testing.T) {
	ends := []api.Rat{number(t, "-2"), number(t, "-1"), number(t, "-1/2"), number(t, "0"), number(t, "2/3"), number(t, "1"), number(t, "2")}
	small(6, func(p api.Poly) { check(t, p, ends) })
}

// candidates returns the rational roots of p, whose coefficients are small integers, by the theorem on rational roots.
func candidates(p api.Poly, largest int64) []api.Rat {
	var out []api.Rat
	for d := int64(1); d <= largest; d++ {
		for n := -largest; n <= largest; n++ {
			c, _ := rational.Of(integer.Of(n), integer.Of(d))
			if v, _ := integer.Small(c.Den); v == d && rational.Sign(poly.Eval(p, c)) == 0 {
				out = append(out, c)
			}
		}
	}
	return out
}

func TestRootsOfSmallPolynomials(t *testing.T) {
	r := rand.New(rand.NewSource(42))
	found := 0
	for range 1500 {
		var p api.Poly
		for range 1 + r.Intn(6) {
			p = append(p, rational.Whole(int64(r.Intn(13)-6)))
		}
		p = poly.Trim(p)
		if len(p) == 0 {
			continue
		}
		want := candidates(p, 6)
		for i := range want {
			for k := range i {
				if rational.Cmp(want[i], want[k]) < 0 {
					want[i], want[k] = want[k], want[i]
				}
			}
		}
		found += len(want)
		mustHaveRoots(t, p, text(want))
	}
	if found < 500 {
		t.Errorf("only %d roots were looked for", found)
	}
}
