package mgcd_test

import (
	"math/big"
	"math/rand"
	"testing"

	"quadrature/api"
	"quadrature/mgcd"
	"quadrature/mpoly"
)

// The package looks for greatest common divisors and resultants with numbers in place of variables, modulo prime numbers. The polynomials here are such that some of them mislead.

// numbers are the numbers that are taken first for the variables; multiples of them follow.
var numbers = []int64{0x1243f6a8885a308d, 0x1313198a2e037073, 0x144a4093822299f3, 0x11d0082efa98ec4e}

// primes returns the first prime numbers that are taken: those before 2^62.
func primes(count int) []*big.Int {
	var out []*big.Int
	for p := new(big.Int).Lsh(big.NewInt(1), 62); len(out) < count; {
		p.Sub(p, big.NewInt(1))
		if p.ProbablyPrime(20) {
			out = append(out, new(big.Int).Set(p))
		}
	}
	return out
}

// constant returns the polynomial n.
func constant(n *big.Int) api.MPoly {
	return plain{{}: new(big.Rat).SetInt(n)}.plus(new(big.Rat), nil).polynomial()
}

func TestUnluckyPrimes(t *testing.T) {
	l := primes(6)
	x, y := mpoly.Var(0), mpoly.Var(1)
	for _, s := range []string{"1", "x + 1", "y + x", "x + 1180591620717411303424", "(x + 1180591620717411303424)(x y - 2361183241434822606848)", "z^2 + x y + 3"} {
		common := of(t, s)
		want := mgcd.Normal(common)
		product := constant(big.NewInt(1))
		for _, p := range l {
			c := constant(p)
			product = mpoly.Mul(product, c)
			for _, q := range []api.MPoly{c, product, mpoly.Scale(c, c[0].C)} {
				// Modulo p, there are further common divisors.
				pairs := [][2]api.MPoly{{x, mpoly.Add(x, q)}, {mpoly.Mul(x, y), mpoly.Mul(mpoly.Add(x, q), y)}, {mpoly.Add(x, y), mpoly.Add(mpoly.Add(x, y), q)}, {mpoly.Mul(x, mpoly.Add(y, q)), mpoly.Mul(y, mpoly.Add(x, q))}, {mpoly.Add(x, constant(big.NewInt(2))), mpoly.Add(x, mpoly.Add(q, constant(big.NewInt(2))))}}
				for k, pair := range pairs {
					want := want
					if k == 1 {
						want = mpoly.Mul(want, y)
					}
					mustShare(t, mpoly.Mul(pair[0], common), mpoly.Mul(pair[1], common), want)
				}
				// Modulo p, the first coefficients vanish: of the divisor, of one of the quotients, of both.
				first := mpoly.Add(mpoly.Mul(q, x), constant(big.NewInt(1)))
				a, b := mpoly.Add(x, constant(big.NewInt(2))), mpoly.Add(x, constant(big.NewInt(3)))
				mustShare(t, mpoly.Mul(mpoly.Mul(first, a), common), mpoly.Mul(mpoly.Mul(first, b), common), mpoly.Mul(mgcd.Normal(first), want))
				mustShare(t, mpoly.Mul(first, common), mpoly.Mul(b, common), want)
				mustShare(t, mpoly.Mul(first, common), mpoly.Mul(mpoly.Add(first, x), common), want)
			}
		}
	}
}

func TestUnluckyNumbers(t *testing.T) {
	p := primes(1)[0]
	for i := range numbers {
		for factor := range int64(4) {
			s := new(big.Int).Mul(big.NewInt(numbers[i]), big.NewInt(factor+1))
			c := constant(s.Mod(s, p))
			for v := range 4 {
				for w := range 4 {
					if v != w {
						checkNumber(t, mpoly.Var(v), mpoly.Var(w), c)
					}
				}
			}
		}
	}
}

// checkNumber checks greatest common divisors of polynomials in x and y, for which y = c misleads.
func checkNumber(t *testing.T, x, y, c api.MPoly) {
	t.Helper()
	one, two := constant(big.NewInt(1)), constant(big.NewInt(2))
	d := mpoly.Sub(y, c)
	add, mul := mpoly.Add, mpoly.Mul
	for _, common := range []api.MPoly{add(add(x, y), one), add(mul(x, y), one), add(mul(mul(x, x), mul(y, y)), add(x, y)), mul(add(add(x, y), one), d), mul(d, d)} {
		want := mgcd.Normal(common)
		// With y = c, there are further common divisors.
		mustShare(t, mul(add(x, d), common), mul(add(x, mul(two, d)), common), want)
		mustShare(t, mul(add(mul(x, x), d), common), mul(add(mul(x, x), mul(x, d)), common), want)
		// With y = c, the first coefficients vanish.
		first := add(mul(d, x), one)
		mustShare(t, mul(mul(first, add(x, one)), common), mul(mul(first, add(x, two)), common), mul(mgcd.Normal(first), want))
		mustShare(t, mul(first, common), mul(add(x, two), common), want)
	}
}

// TestManyUnluckyNumbers has polynomials for which more numbers mislead than are taken at first.
func TestManyUnluckyNumbers(t *testing.T) {
	p := primes(1)[0]
	x, one := mpoly.Var(0), constant(big.NewInt(1))
	for v := 1; v < 4; v++ {
		for _, count := range []int64{1, 2, 3, 5, 8} {
			for i := range numbers {
				d := one
				for k := range count {
					s := new(big.Int).Mul(big.NewInt(numbers[i]), big.NewInt(k+1))
					d = mpoly.Mul(d, mpoly.Sub(mpoly.Var(v), constant(s.Mod(s, p))))
				}
				common := mpoly.Add(mpoly.Mul(x, x), mpoly.Add(mpoly.Var(v), one))
				a, b := mpoly.Add(x, d), mpoly.Sub(x, d)
				mustShare(t, mpoly.Mul(a, common), mpoly.Mul(b, common), mgcd.Normal(common))
				mustShare(t, mpoly.Mul(mpoly.Mul(a, a), common), mpoly.Mul(mpoly.Mul(a, b), common), mgcd.Normal(mpoly.Mul(a, common)))
			}
		}
	}
}

func TestUnluckyResultants(t *testing.T) {
	p := primes(3)
	x, y, one := mpoly.Var(0), mpoly.Var(1), constant(big.NewInt(1))
	add, sub, mul := mpoly.Add, mpoly.Sub, mpoly.Mul
	check := func(c api.MPoly) {
		t.Helper()
		for _, l := range [][2]api.MPoly{
			// Where c vanishes, the degree of one or both falls.
			{add(mul(c, x), one), add(x, y)}, {add(mul(c, mul(x, x)), x), add(mul(x, y), one)}, {add(mul(c, mul(x, x)), y), add(mul(c, x), one)}, {add(mul(c, mul(x, x)), y), add(mul(c, mul(x, x)), x)},
			// Where c vanishes, there is a common factor, a coefficient, or the resultant.
			{add(x, c), mul(x, add(x, y))}, {add(x, c), sub(x, c)}, {c, add(x, y)}, {add(mul(x, x), mul(c, x)), add(mul(c, x), y)}, {add(mul(x, mul(x, x)), mul(c, x)), add(mul(x, x), c)},
		} {
			for _, a := range [][2]api.MPoly{l, {l[1], l[0]}} {
				checkResultant(t, a[0], a[1], 0, toPlain(a[0]).resultant(toPlain(a[1]), 0))
			}
		}
	}
	for _, q := range p {
		check(constant(q))
		check(add(mul(constant(q), y), one))
		check(add(mul(y, y), mul(constant(q), y)))
		check(mul(constant(q), constant(q)))
	}
	for i := range numbers {
		for factor := range int64(3) {
			s := new(big.Int).Mul(big.NewInt(numbers[i]), big.NewInt(factor+1))
			for w := 1; w < 4; w++ {
				d := sub(mpoly.Var(w), constant(s.Mod(s, p[0])))
				check(d)
				check(mul(d, add(y, one)))
			}
		}
	}
}

// TestGreatestCoefficients has resultants whose coefficients are about as large as their bounds, for bounds near products of prime numbers.
func TestGreatestCoefficients(t *testing.T) {
	x, y := mpoly.Var(0), mpoly.Var(1)
	for bits := uint(1); bits < 200; bits++ {
		power := new(big.Int).Lsh(big.NewInt(1), bits)
		for _, n := range []*big.Int{power, new(big.Int).Sub(power, big.NewInt(1)), new(big.Int).Neg(power)} {
			c := constant(n)
			for _, l := range [][2]api.MPoly{{mpoly.Sub(mpoly.Mul(c, x), mpoly.Mul(c, y)), mpoly.Add(x, y)}, {mpoly.Add(mpoly.Mul(c, x), y), mpoly.Add(x, mpoly.Mul(c, y))}, {mpoly.Add(mpoly.Mul(x, x), c), mpoly.Sub(mpoly.Mul(x, y), c)}, {mpoly.Add(x, c), mpoly.Add(x, y)}, {mpoly.Add(x, c), mpoly.Sub(x, c)}} {
				checkResultant(t, l[0], l[1], 0, toPlain(l[0]).resultant(toPlain(l[1]), 0))
				checkResultant(t, l[1], l[0], 0, toPlain(l[1]).resultant(toPlain(l[0]), 0))
			}
		}
	}
}

func TestLongCoefficients(t *testing.T) {
	r := rand.New(rand.NewSource(241))
	// long returns a polynomial with coefficients of up to the given number of bits.
	long := func(bits uint, in ...int) api.MPoly {
		p := plain{}
		for e := range toPlain(sample(r, 5, 3, in...)) {
			n := new(big.Int).Rand(r, new(big.Int).Lsh(big.NewInt(1), bits))
			d := new(big.Int).Rand(r, new(big.Int).Lsh(big.NewInt(1), bits/4))
			c := new(big.Rat).SetFrac(n.Sub(n, new(big.Int).Lsh(big.NewInt(1), bits-1)), d.Add(d, big.NewInt(1)))
			p.add(e, c)
		}
		return p.polynomial()
	}
	for _, bits := range []uint{8, 40, 62, 63, 64, 100, 400, 1500} {
		for range 1 + 2000/(bits+100) {
			in := r.Perm(4)[:1+r.Intn(3)]
			a, b, c := long(bits, in...), long(bits, in...), long(bits, in...)
			g := mgcd.Gcd(product(a, c), product(b, c))
			mustBe(t, "Gcd of products of "+texts(a, b, c), g, product(mgcd.Gcd(a, b), mgcd.Normal(c)))
			v := in[0]
			r := mgcd.Resultant(product(a, b), c, v)
			mustBe(t, "Resultant of products of "+texts(a, b)+" and "+text(c), r, product(mgcd.Resultant(a, c, v), mgcd.Resultant(b, c, v)))
		}
	}
}

func TestHighDegrees(t *testing.T) {
	for _, x := range [][3]string{
		{"x^1099511627776 - 1", "x^549755813888 + 1", "x^549755813888 + 1"}, {"x^3298534883328 - y^1099511627776", "x^6597069766656 - y^2199023255552", "y^1099511627776 - x^3298534883328"}, {"x^4611686018427387904", "x^4611686018427387903 y", "x^4611686018427387903"},
		{"x^9223372036854775807 + x^9223372036854775806", "x^2 - 1", "x + 1"}, {"x^100000 + 1", "x^300000 + x^200000 + x^100000 + 1", "x^100000 + 1"}, {"x^100000 + x + 1", "x^99999 + 1", "1"}, {"y x^100000 + x + 1", "y^2 x^100001 + x", "1"},
		// Beyond the degrees that are searched, there is no promise but to return.
		{"x^9223372036854775807 + x + 1", "x^2 + 1", "1"}, {"x^9223372036854775807 + 2", "x^2 + x + 3", "1"}, {"x^134217728 + x + 1", "y + x + 3", "1"},
	} {
		mustShare(t, of(t, x[0]), of(t, x[1]), of(t, x[2]))
	}
	mustFactor(t, of(t, "x^1099511627776 - 2 x^549755813888 + 1"), 0, "(x^549755813888 - 1)^2")
	mustFactor(t, of(t, "x^9223372036854775807 + x^9223372036854775806"), 0, "(x + 1)^1 (x)^9223372036854775806")
	mustBe(t, "Resultant", mgcd.Resultant(of(t, "x^1099511627776 + y"), of(t, "x^1099511627776 + y"), 0), nil)
	mustBe(t, "Resultant", mgcd.Resultant(of(t, "x^1099511627776 + y"), of(t, "-1"), 0), of(t, "1"))
}
