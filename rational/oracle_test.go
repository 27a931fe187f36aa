package rational_test

import (
	"math/big"
	"math/rand"
	"slices"
	"testing"

	"quadrature/api"
	"quadrature/integer"
	"quadrature/rational"
)

// toBigInt returns a as an integer of the standard library, which serves as the oracle.
func toBigInt(a api.Int) *big.Int {
	out := new(big.Int)
	for i := len(a.Mag) - 1; i >= 0; i-- {
		out.Lsh(out, 32)
		out.Or(out, big.NewInt(int64(a.Mag[i])))
	}
	if a.Neg {
		out.Neg(out)
	}
	return out
}

// fromBigInt returns the integer of this program with the value of n.
func fromBigInt(n *big.Int) api.Int {
	var mag []uint32
	rest := new(big.Int).Abs(n)
	for rest.Sign() > 0 {
		mag = append(mag, uint32(rest.Uint64()))
		rest.Rsh(rest, 32)
	}
	return api.Int{Neg: n.Sign() < 0, Mag: mag}
}

// toBig returns a as a number of the standard library.
func toBig(a api.Rat) *big.Rat { return new(big.Rat).SetFrac(toBigInt(a.Num), toBigInt(a.Den)) }

// toBigText returns the number that the standard library reads from s.
func toBigText(s string) (*big.Rat, bool) { return new(big.Rat).SetString(s) }

// fromBig returns the number of this program with the value of a.
func fromBig(a *big.Rat) api.Rat {
	return api.Rat{Num: fromBigInt(a.Num()), Den: fromBigInt(a.Denom())}
}

// product returns a product of at most the given number of factors from a short list, so that two products often have some in common.
func product(r *rand.Rand, factors int) *big.Int {
	list := []int64{2, 2, 2, 3, 3, 5, 7, 4294967291, 4294967296, 9223372036854775783}
	out := big.NewInt(1)
	for range r.Intn(factors + 1) {
		out.Mul(out, big.NewInt(list[r.Intn(len(list))]))
	}
	return out
}

// sample returns a number whose parts are products of at most the given number of factors; a few of them are 0 or integers.
func sample(r *rand.Rand, factors int) api.Rat {
	n, d := product(r, factors), product(r, factors)
	switch r.Intn(12) {
	case 0:
		n.SetInt64(0)
	case 1, 2:
		d.SetInt64(1)
	case 3, 4:
		// A numerator with no small factors: sums and differences keep such ones.
		n.Add(n, big.NewInt(int64(r.Intn(100))))
	}
	if r.Intn(2) == 0 {
		n.Neg(n)
	}
	return fromBig(new(big.Rat).SetFrac(n, d))
}

// is checks a result against the oracle, and that it is valid.
func is(t *testing.T, got api.Rat, want *big.Rat, call string, args ...api.Rat) {
	t.Helper()
	expected := fromBig(want)
	if !rational.Valid(got) || !identical(got.Num, expected.Num) || !identical(got.Den, expected.Den) {
		t.Fatalf("%s%v = %v, want %v", call, args, got, want)
	}
}

func checkPair(t *testing.T, a, b api.Rat) {
	t.Helper()
	x, y := toBig(a), toBig(b)
	is(t, rational.Add(a, b), new(big.Rat).Add(x, y), "Add", a, b)
	is(t, rational.Sub(a, b), new(big.Rat).Sub(x, y), "Sub", a, b)
	is(t, rational.Mul(a, b), new(big.Rat).Mul(x, y), "Mul", a, b)
	if got := rational.Cmp(a, b); got != x.Cmp(y) {
		t.Fatalf("Cmp(%v, %v) = %d", a, b, got)
	}
	q, err := rational.Div(a, b)
	if y.Sign() == 0 {
		mustFail(t, "Div by 0", q, err, api.ErrZero)
		return
	}
	if err != api.OK {
		t.Fatalf("Div(%v, %v): %v", a, b, err)
	}
	is(t, q, new(big.Rat).Quo(x, y), "Div", a, b)
}

func checkOne(t *testing.T, a api.Rat) {
	t.Helper()
	x := toBig(a)
	is(t, rational.Neg(a), new(big.Rat).Neg(x), "Neg", a)
	if rational.Sign(a) != x.Sign() || !rational.Valid(a) {
		t.Fatalf("Sign(%v) = %d, Valid: %v", a, rational.Sign(a), rational.Valid(a))
	}
	// The denominator is positive: for it, the division of the standard library rounds down.
	if got := rational.Floor(a); !identical(got, fromBigInt(new(big.Int).Div(x.Num(), x.Denom()))) {
		t.Fatalf("Floor(%v) = %v", a, got)
	}
	if got := rational.Text(a); got != x.RatString() {
		t.Fatalf("Text(%v) = %s", a, got)
	}
	back, err := rational.Read(x.RatString())
	if err != api.OK {
		t.Fatalf("Read(%v): %v", x, err)
	}
	is(t, back, x, "Read", a)
}

func TestAgainstOracle(t *testing.T) {
	r := rand.New(rand.NewSource(21))
	for i := range 40000 {
		factors := 1 + i%14
		a, b := sample(r, factors), sample(r, 1+r.Intn(factors))
		checkPair(t, a, b)
		checkPair(t, b, a)
		checkOne(t, a)
	}
}

func TestSmallNumbersAgainstOracle(t *testing.T) {
	var list []api.Rat
	for d := int64(1); d <= 12; d++ {
		for n := int64(-12); n <= 12; n++ {
			list = append(list, fromBig(big.NewRat(n, d)))
		}
	}
	for _, a := range list {
		checkOne(t, a)
		for _, b := range list {
			checkPair(t, a, b)
		}
	}
}

func TestOfAgainstOracle(t *testing.T) {
	r := rand.New(rand.NewSource(22))
	for range 20000 {
		n, d := product(r, 8), product(r, 8)
		if r.Intn(2) == 0 {
			n.Neg(n)
		}
		if r.Intn(2) == 0 {
			d.Neg(d)
		}
		a, err := rational.Of(fromBigInt(n), fromBigInt(d))
		if err != api.OK {
			t.Fatalf("Of(%v, %v): %v", n, d, err)
		}
		is(t, a, new(big.Rat).SetFrac(n, d), "Of")
	}
}

func TestPowersAgainstOracle(t *testing.T) {
	r := rand.New(rand.NewSource(23))
	for n := -api.MaxPow; n <= api.MaxPow; n++ {
		a := sample(r, 3)
		got, err := rational.Pow(a, n)
		if n < 0 && rational.Sign(a) == 0 {
			mustFail(t, "Pow(0, negative)", got, err, api.ErrZero)
			continue
		}
		if err != api.OK {
			t.Fatal(err)
		}
		is(t, got, bigPower(toBig(a), n), "Pow", a, rational.Whole(int64(n)))
	}
}

// bigPower returns the n-th power of a.
func bigPower(a *big.Rat, n int) *big.Rat {
	if n < 0 {
		a, n = new(big.Rat).Inv(a), -n
	}
	exponent := big.NewInt(int64(n))
	return new(big.Rat).SetFrac(new(big.Int).Exp(a.Num(), exponent, nil), new(big.Int).Exp(a.Denom(), exponent, nil))
}

// guarded returns a copy of m with spare room behind it that is not the functions' to write to, either.
func guarded(m []uint32) []uint32 { return append(slices.Clone(m), 11, 12, 13)[:len(m)] }

// wrap returns a copy of a with guarded limbs.
func wrap(a api.Rat) api.Rat {
	a.Num.Mag, a.Den.Mag = guarded(a.Num.Mag), guarded(a.Den.Mag)
	return a
}

// untouched reports whether a guarded copy of b still is one.
func untouched(a, b api.Rat) bool {
	same := func(x, y api.Int) bool {
		return identical(x, y) && slices.Equal(x.Mag[:len(x.Mag)+3][len(x.Mag):], []uint32{11, 12, 13})
	}
	return same(a.Num, b.Num) && same(a.Den, b.Den)
}

func TestArgumentsAreNotModified(t *testing.T) {
	r := rand.New(rand.NewSource(24))
	for range 3000 {
		a, b := sample(r, 10), sample(r, 6)
		x, y := wrap(a), wrap(b)
		for _, c := range []api.Rat{x, y, rational.Whole(0), rational.Whole(1)} {
			callAll(x, c)
			callAll(c, x)
		}
		if !untouched(x, a) || !untouched(y, b) {
			t.Fatalf("%v, %v were modified", a, b)
		}
	}
}

// callAll calls all functions that take numbers, and returns their results that are numbers.
func callAll(a, b api.Rat) []api.Rat {
	rational.Valid(a)
	rational.Cmp(a, b)
	rational.Sign(a)
	rational.Text(a)
	out := []api.Rat{rational.Neg(a), rational.Add(a, b), rational.Sub(a, b), rational.Mul(a, b), {Num: rational.Floor(a), Den: integer.Of(1)}}
	q, _ := rational.Div(a, b)
	f, _ := rational.Of(a.Num, b.Num)
	out = append(out, q, f)
	for _, n := range []int{-3, -1, 0, 1, 5} {
		p, _ := rational.Pow(a, n)
		out = append(out, p)
	}
	return out
}

func TestResultsDependOnArgumentsOnly(t *testing.T) {
	r := rand.New(rand.NewSource(25))
	same := func(a, b api.Rat) bool { return identical(a.Num, b.Num) && identical(a.Den, b.Den) }
	for range 2000 {
		a, b := sample(r, 8), sample(r, 5)
		first := callAll(a, b)
		callAll(b, a)
		if again := callAll(wrap(a), wrap(b)); !slices.EqualFunc(first, again, same) {
			t.Fatalf("%v, %v: %v, then %v", a, b, first, again)
		}
	}
}

// TestInvalidArgumentsDoNoHarm has arguments for which the results are unspecified: the functions must return nevertheless.
func TestInvalidArgumentsDoNoHarm(t *testing.T) {
	var parts []api.Int
	for _, neg := range []bool{false, true} {
		for _, mag := range [][]uint32{nil, {0}, {1}, {2}, {6, 0}, {0, 1}, {0, 0, 3, 0}, {5, 4, 3, 2, 1}} {
			parts = append(parts, api.Int{Neg: neg, Mag: mag})
		}
	}
	var list []api.Rat
	for _, n := range parts {
		for _, d := range parts {
			list = append(list, api.Rat{Num: n, Den: d})
		}
	}
	for _, a := range list {
		for _, b := range list {
			callAll(a, b)
		}
	}
}
