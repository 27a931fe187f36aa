package rational_test

import (
	"math/rand"
	"testing"

	"quadrature/api"
	"quadrature/integer"
	"quadrature/rational"
)

// same reports whether a and b are the same number in the same representation.
func same(a, b api.Rat) bool {
	return rational.Valid(a) && rational.Valid(b) && identical(a.Num, b.Num) && identical(a.Den, b.Den) &&
		rational.Cmp(a, b) == 0 && rational.Text(a) == rational.Text(b)
}

func TestField(t *testing.T) {
	r := rand.New(rand.NewSource(26))
	add, sub, mul, neg := rational.Add, rational.Sub, rational.Mul, rational.Neg
	zero, one := rational.Whole(0), rational.Whole(1)
	for range 5000 {
		a, b, c := sample(r, 8), sample(r, 8), sample(r, 5)
		for law, ok := range map[string]bool{
			"a + b = b + a":             same(add(a, b), add(b, a)),
			"(a + b) + c = a + (b + c)": same(add(add(a, b), c), add(a, add(b, c))),
			"a + 0 = a":                 same(add(a, zero), a) && same(add(zero, a), a),
			"a + -a = 0":                same(add(a, neg(a)), zero) && same(sub(a, a), zero),
			"a - b = a + -b":            same(sub(a, b), add(a, neg(b))),
			"a b = b a":                 same(mul(a, b), mul(b, a)),
			"(a b) c = a (b c)":         same(mul(mul(a, b), c), mul(a, mul(b, c))),
			"a 1 = a":                   same(mul(a, one), a) && same(mul(one, a), a),
			"a 0 = 0":                   same(mul(a, zero), zero) && same(mul(zero, a), zero),
			"a (b + c) = a b + a c":     same(mul(a, add(b, c)), add(mul(a, b), mul(a, c))),
			"0 is not 1":                !same(zero, one),
		} {
			if !ok {
				t.Fatalf("%s: %v, %v, %v", law, a, b, c)
			}
		}
	}
}

func TestInverses(t *testing.T) {
	r := rand.New(rand.NewSource(27))
	one := rational.Whole(1)
	for range 5000 {
		a, b := sample(r, 8), sample(r, 8)
		inverse, err := rational.Div(one, b)
		if rational.Sign(b) == 0 {
			mustFail(t, "1 / 0", inverse, err, api.ErrZero)
			continue
		}
		q, err2 := rational.Div(a, b)
		p, err3 := rational.Pow(b, -1)
		if err != api.OK || err2 != api.OK || err3 != api.OK {
			t.Fatalf("inverses of %v: %v, %v, %v", b, err, err2, err3)
		}
		if !same(rational.Mul(b, inverse), one) || !same(p, inverse) || !same(q, rational.Mul(a, inverse)) || !same(rational.Mul(q, b), a) {
			t.Fatalf("%v / %v = %v, inverse %v", a, b, q, inverse)
		}
	}
}

func TestOrder(t *testing.T) {
	r := rand.New(rand.NewSource(28))
	for range 5000 {
		a, b, c := sample(r, 4), sample(r, 4), sample(r, 4)
		order := rational.Cmp(a, b)
		if order != -rational.Cmp(b, a) || rational.Cmp(a, a) != 0 || order == 0 && !same(a, b) {
			t.Fatalf("Cmp is not antisymmetric: %v, %v", a, b)
		}
		if order != rational.Sign(rational.Sub(a, b)) || rational.Sign(a) != rational.Cmp(a, rational.Whole(0)) {
			t.Fatalf("Cmp and Sign disagree: %v, %v", a, b)
		}
		if order <= 0 && rational.Cmp(b, c) <= 0 && rational.Cmp(a, c) > 0 {
			t.Fatalf("Cmp is not transitive: %v, %v, %v", a, b, c)
		}
		if rational.Cmp(rational.Add(a, c), rational.Add(b, c)) != order {
			t.Fatalf("addition does not preserve the order: %v, %v, %v", a, b, c)
		}
		if rational.Cmp(rational.Mul(a, c), rational.Mul(b, c)) != order*rational.Sign(c) {
			t.Fatalf("multiplication is not compatible with the order: %v, %v, %v", a, b, c)
		}
	}
}

// power returns the n-th power of a.
func power(t *testing.T, a api.Rat, n int) api.Rat {
	t.Helper()
	p, err := rational.Pow(a, n)
	if err != api.OK || !rational.Valid(p) {
		t.Fatalf("Pow(%v, %d) = %v, %v", a, n, p, err)
	}
	return p
}

// exponents returns two exponents whose sum is an exponent, too.
func exponents(r *rand.Rand, least int) (int, int) {
	for {
		m, n := least+r.Intn(api.MaxPow+1-least), least+r.Intn(api.MaxPow+1-least)
		if sum := m + n; -api.MaxPow <= sum && sum <= api.MaxPow {
			return m, n
		}
	}
}

func TestPowersMultiply(t *testing.T) {
	r := rand.New(rand.NewSource(29))
	for range 1000 {
		a, b := sample(r, 3), sample(r, 3)
		least := -api.MaxPow
		if rational.Sign(a) == 0 || rational.Sign(b) == 0 {
			least = 0
		}
		m, n := exponents(r, least)
		if !same(rational.Mul(power(t, a, m), power(t, a, n)), power(t, a, m+n)) {
			t.Fatalf("%v to the powers %d and %d", a, m, n)
		}
		if !same(power(t, rational.Mul(a, b), n), rational.Mul(power(t, a, n), power(t, b, n))) {
			t.Fatalf("%v and %v to the power %d", a, b, n)
		}
	}
}

func TestExtendingFractions(t *testing.T) {
	r := rand.New(rand.NewSource(30))
	for range 5000 {
		a, factor := sample(r, 6), fromBigInt(product(r, 6))
		if r.Intn(2) == 0 {
			factor = integer.Neg(factor)
		}
		b, err := rational.Of(integer.Mul(a.Num, factor), integer.Mul(a.Den, factor))
		if err != api.OK || !same(a, b) {
			t.Fatalf("%v extended by %v is %v, %v", a, factor, b, err)
		}
		if integer.Sign(factor) < 0 {
			continue
		}
		c, err := rational.Read(integer.Text(integer.Mul(a.Num, factor)) + "/" + integer.Text(integer.Mul(a.Den, factor)))
		if err != api.OK || !same(a, c) {
			t.Fatalf("%v extended by %v is read as %v, %v", a, factor, c, err)
		}
	}
}

func TestTextsTellNumbersApart(t *testing.T) {
	texts := map[string]api.Rat{}
	remember := func(a api.Rat) {
		s := rational.Text(a)
		if b, ok := texts[s]; ok && !same(a, b) {
			t.Errorf("%v and %v have the text %q", a, b, s)
		}
		texts[s] = a
	}
	distinct := 0
	for n := int64(-40); n <= 40; n++ {
		for d := int64(1); d <= 40; d++ {
			a, err := rational.Of(integer.Of(n), integer.Of(d))
			if err != api.OK {
				t.Fatal(err)
			}
			if isOne(integer.Gcd(integer.Of(n), integer.Of(d))) {
				distinct++
			}
			remember(a)
		}
	}
	if len(texts) != distinct {
		t.Errorf("%d texts for %d numbers", len(texts), distinct)
	}
	r := rand.New(rand.NewSource(31))
	for range 5000 {
		a := sample(r, 10)
		remember(a)
		back, err := rational.Read(rational.Text(a))
		if err != api.OK || !same(a, back) {
			t.Fatalf("Read(Text(%v)) = %v, %v", a, back, err)
		}
	}
}

// isOne reports whether a is 1.
func isOne(a api.Int) bool { return integer.Cmp(a, integer.Of(1)) == 0 }

func TestFloorIsBelow(t *testing.T) {
	r := rand.New(rand.NewSource(32))
	for range 5000 {
		a := sample(r, 8)
		floor := api.Rat{Num: rational.Floor(a), Den: integer.Of(1)}
		if !rational.Valid(floor) || rational.Cmp(floor, a) > 0 || rational.Cmp(a, rational.Add(floor, rational.Whole(1))) >= 0 {
			t.Fatalf("Floor(%v) = %v", a, floor)
		}
		// An integer is its own floor; next to it, the floor is it or the one below.
		bit, err := rational.Of(integer.Of(1), integer.Add(fromBigInt(product(r, 6)), integer.Of(1)))
		if err != api.OK {
			t.Fatal(err)
		}
		above, below := rational.Floor(rational.Add(floor, bit)), rational.Floor(rational.Sub(floor, bit))
		if !identical(rational.Floor(floor), floor.Num) || !identical(above, floor.Num) || !identical(below, integer.Sub(floor.Num, integer.Of(1))) {
			t.Fatalf("floors next to %v", floor)
		}
	}
}
