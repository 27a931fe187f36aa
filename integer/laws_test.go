package integer_test

import (
	"math/rand"
	"testing"

	"quadrature/api"
	"quadrature/integer"
)

// same reports whether a and b are the same number in the same representation.
func same(a, b api.Int) bool {
	return integer.Valid(a) && integer.Valid(b) && integer.Cmp(a, b) == 0 && integer.Text(a) == integer.Text(b)
}

func TestRing(t *testing.T) {
	r := rand.New(rand.NewSource(11))
	add, sub, mul, neg := integer.Add, integer.Sub, integer.Mul, integer.Neg
	zero, one := integer.Of(0), integer.Of(1)
	for range 5000 {
		a, b, c := sample(r, 8), sample(r, 8), sample(r, 5)
		for law, ok := range map[string]bool{
			"a + b = b + a":             same(add(a, b), add(b, a)),
			"(a + b) + c = a + (b + c)": same(add(add(a, b), c), add(a, add(b, c))),
			"a + 0 = a":                 same(add(a, zero), a) && same(add(zero, a), a),
			"a + -a = 0":                same(add(a, neg(a)), zero) && same(sub(a, a), zero),
			"a - b = a + -b":            same(sub(a, b), add(a, neg(b))),
			"a b = b a":                 same(mul(a, b), mul(b, a)),
			"(a b) c = a (b c)":         same(mul(mul(a, b), c), mul(a, mul(b, c))),
			"a 1 = a":                   same(mul(a, one), a) && same(mul(one, a), a),
			"a 0 = 0":                   same(mul(a, zero), zero),
			"a (b + c) = a b + a c":     same(mul(a, add(b, c)), add(mul(a, b), mul(a, c))),
		} {
			if !ok {
				t.Fatalf("%s: %v, %v, %v", law, a, b, c)
			}
		}
	}
}

func TestOrder(t *testing.T) {
	r := rand.New(rand.NewSource(12))
	for range 5000 {
		a, b, c := sample(r, 4), sample(r, 4), sample(r, 4)
		order := integer.Cmp(a, b)
		if order != -integer.Cmp(b, a) || integer.Cmp(a, a) != 0 {
			t.Fatalf("Cmp is not antisymmetric: %v, %v", a, b)
		}
		if order != integer.Sign(integer.Sub(a, b)) || integer.Sign(a) != integer.Cmp(a, integer.Of(0)) {
			t.Fatalf("Cmp and Sign disagree: %v, %v", a, b)
		}
		if order <= 0 && integer.Cmp(b, c) <= 0 && integer.Cmp(a, c) > 0 {
			t.Fatalf("Cmp is not transitive: %v, %v, %v", a, b, c)
		}
		if integer.Cmp(integer.Add(a, c), integer.Add(b, c)) != order {
			t.Fatalf("addition does not preserve the order: %v, %v, %v", a, b, c)
		}
		if integer.Cmp(integer.Mul(a, c), integer.Mul(b, c)) != order*integer.Sign(c) {
			t.Fatalf("multiplication is not compatible with the order: %v, %v, %v", a, b, c)
		}
	}
}

func TestDivisionIsUnique(t *testing.T) {
	r := rand.New(rand.NewSource(13))
	for range 5000 {
		b, want := sample(r, 5), sample(r, 5)
		size := b
		if integer.Sign(b) < 0 {
			size = integer.Neg(b)
		}
		_, rest, err := integer.DivMod(sample(r, 7), size)
		if integer.Sign(b) == 0 {
			continue
		}
		if err != api.OK || integer.Sign(rest) < 0 || integer.Cmp(rest, size) >= 0 {
			t.Fatalf("remainder %v of %v, %v", rest, size, err)
		}
		q, s, err := integer.DivMod(integer.Add(integer.Mul(want, b), rest), b)
		if err != api.OK || !same(q, want) || !same(s, rest) {
			t.Fatalf("DivMod(%v %v + %v) = %v, %v, %v", want, b, rest, q, s, err)
		}
	}
}

// divides reports whether a is a multiple of d.
func divides(d, a api.Int) bool {
	_, r, err := integer.DivMod(a, d)
	return err == api.OK && integer.Sign(r) == 0 || integer.Sign(d) == 0 && integer.Sign(a) == 0
}

func TestGreatestCommonDivisor(t *testing.T) {
	r := rand.New(rand.NewSource(14))
	for range 3000 {
		common := sample(r, 4)
		a, b := integer.Mul(common, sample(r, 6)), integer.Mul(common, sample(r, 6))
		g := integer.Gcd(a, b)
		if integer.Sign(g) < 0 || !divides(g, a) || !divides(g, b) || !divides(common, g) {
			t.Fatalf("Gcd(%v, %v) = %v", a, b, g)
		}
		if !same(g, integer.Gcd(b, a)) || !same(g, integer.Gcd(integer.Neg(a), b)) {
			t.Fatalf("Gcd(%v, %v) depends on order or sign", a, b)
		}
		if integer.Sign(g) == 0 {
			continue
		}
		x, _, _ := integer.DivMod(a, g)
		y, _, _ := integer.DivMod(b, g)
		if !same(integer.Gcd(x, y), integer.Of(1)) {
			t.Fatalf("Gcd(%v, %v) = %v is not the greatest", a, b, g)
		}
	}
}

func TestPowersMultiply(t *testing.T) {
	r := rand.New(rand.NewSource(15))
	for range 1000 {
		a := sample(r, 3)
		m := r.Intn(api.MaxPow + 1)
		n := r.Intn(api.MaxPow + 1 - m)
		p, e1 := integer.Pow(a, m)
		q, e2 := integer.Pow(a, n)
		both, e3 := integer.Pow(a, m+n)
		if e1 != api.OK || e2 != api.OK || e3 != api.OK || !same(integer.Mul(p, q), both) {
			t.Fatalf("%v to the powers %d and %d", a, m, n)
		}
	}
}

func TestNotationIsUnique(t *testing.T) {
	// Every text of up to four bytes from this alphabet is either refused or the Text of what is read.
	const alphabet = "-+019 "
	var try func(prefix string)
	try = func(prefix string) {
		a, err := integer.Read(prefix)
		if err == api.OK && integer.Text(a) != prefix || err != api.OK && err != api.ErrForm {
			t.Errorf("Read(%q) = %v, %v", prefix, a, err)
		}
		for i := 0; i < len(alphabet) && len(prefix) < 4; i++ {
			try(prefix + alphabet[i:i+1])
		}
	}
	try("")
}
