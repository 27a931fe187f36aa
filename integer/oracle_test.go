package integer_test

import (
	"math/big"
	"math/rand"
	"slices"
	"testing"

	"quadrature/api"
	"quadrature/integer"
)

// toBig returns a as an integer of the standard library, which serves as the oracle.
func toBig(a api.Int) *big.Int {
	out := new(big.Int)
	for i := len(a.Mag) - 1; i >= 0; i-- {
		out.Lsh(out, 32)
		out.Or(out, big.NewInt(int64(a.Mag[i])))
	}
	if a.Neg {
		out.Neg(out)
	}
	return out
}

// fromBig returns the integer of this program with the value of n.
func fromBig(n *big.Int) api.Int {
	var mag []uint32
	rest := new(big.Int).Abs(n)
	for rest.Sign() > 0 {
		mag = append(mag, uint32(rest.Uint64()))
		rest.Rsh(rest, 32)
	}
	return api.Int{Neg: n.Sign() < 0, Mag: mag}
}

// sample returns an integer of at most the given number of limbs, many of which are at the ends of their range, where carries and borrows are.
func sample(r *rand.Rand, limbs int) api.Int {
	edges := []uint32{0, 0, 1, 2, 1<<31 - 1, 1 << 31, 1<<31 + 1, 1<<32 - 2, 1<<32 - 1, 1<<32 - 1}
	mag := make([]uint32, r.Intn(limbs+1))
	dense := r.Intn(3) == 0
	for i := range mag {
		mag[i] = edges[r.Intn(len(edges))]
		if dense || r.Intn(8) == 0 {
			mag[i] = r.Uint32()
		}
	}
	for len(mag) > 0 && mag[len(mag)-1] == 0 {
		mag[len(mag)-1] = r.Uint32() >> r.Intn(32)
		if mag[len(mag)-1] == 0 {
			mag = mag[:len(mag)-1]
		}
	}
	return api.Int{Neg: len(mag) > 0 && r.Intn(2) == 0, Mag: mag}
}

// is checks a result against the oracle.
func is(t *testing.T, got api.Int, want *big.Int, call string, args ...api.Int) {
	t.Helper()
	if !integer.Valid(got) || toBig(got).Cmp(want) != 0 {
		t.Fatalf("%s%v = %v, want %v", call, args, got, want)
	}
}

// euclid returns the quotient and the remainder of layer 1's division.
func euclid(a, b *big.Int) (*big.Int, *big.Int) {
	return new(big.Int).DivMod(a, b, new(big.Int))
}

func checkPair(t *testing.T, a, b api.Int) {
	t.Helper()
	x, y := toBig(a), toBig(b)
	is(t, integer.Add(a, b), new(big.Int).Add(x, y), "Add", a, b)
	is(t, integer.Sub(a, b), new(big.Int).Sub(x, y), "Sub", a, b)
	is(t, integer.Mul(a, b), new(big.Int).Mul(x, y), "Mul", a, b)
	is(t, integer.Gcd(a, b), new(big.Int).GCD(nil, nil, new(big.Int).Abs(x), new(big.Int).Abs(y)), "Gcd", a, b)
	if got := integer.Cmp(a, b); got != x.Cmp(y) {
		t.Fatalf("Cmp(%v, %v) = %d", a, b, got)
	}
	if y.Sign() == 0 {
		return
	}
	q, r, err := integer.DivMod(a, b)
	if err != api.OK {
		t.Fatalf("DivMod(%v, %v): %v", a, b, err)
	}
	u, v := euclid(x, y)
	is(t, q, u, "quotient", a, b)
	is(t, r, v, "remainder", a, b)
}

func checkOne(t *testing.T, a api.Int) {
	t.Helper()
	x := toBig(a)
	is(t, integer.Neg(a), new(big.Int).Neg(x), "Neg", a)
	if integer.Sign(a) != x.Sign() {
		t.Fatalf("Sign(%v) = %d", a, integer.Sign(a))
	}
	n, ok := integer.Small(a)
	if ok != x.IsInt64() || ok && n != x.Int64() || !ok && n != 0 {
		t.Fatalf("Small(%v) = %d, %v", a, n, ok)
	}
	if integer.Text(a) != x.String() {
		t.Fatalf("Text(%v) = %s", a, integer.Text(a))
	}
	if back, err := integer.Read(x.String()); err != api.OK || integer.Cmp(back, a) != 0 || !integer.Valid(back) {
		t.Fatalf("Read(%v) = %v, %v", x, back, err)
	}
}

func TestAgainstOracle(t *testing.T) {
	r := rand.New(rand.NewSource(1))
	for i := range 60000 {
		limbs := 2 + i%12
		a, b := sample(r, limbs), sample(r, 1+r.Intn(limbs))
		checkPair(t, a, b)
		checkPair(t, b, a)
		checkOne(t, a)
	}
}

func TestSmallValuesAgainstOracle(t *testing.T) {
	var list []api.Int
	for _, middle := range []int64{0, 1 << 16, 1 << 31, 1 << 32, 1<<62 + 1<<62 - 1} {
		for d := int64(-2); d <= 2; d++ {
			n := new(big.Int).Add(big.NewInt(middle), big.NewInt(d))
			list = append(list, fromBig(n), fromBig(new(big.Int).Neg(n)))
		}
	}
	for _, a := range list {
		checkOne(t, a)
		for _, b := range list {
			checkPair(t, a, b)
		}
	}
}

func TestPowersAgainstOracle(t *testing.T) {
	r := rand.New(rand.NewSource(2))
	for n := 0; n <= api.MaxPow; n++ {
		a := sample(r, 3)
		p, err := integer.Pow(a, n)
		if err != api.OK {
			t.Fatal(err)
		}
		is(t, p, new(big.Int).Exp(toBig(a), big.NewInt(int64(n)), nil), "Pow", a, integer.Of(int64(n)))
	}
}

// TestGcdOfCloseFractions has quotients that are all 1, all large, and mixed, behind a common factor: the numbers for which the leading bits alone determine the least or lead astray the most.
func TestGcdOfCloseFractions(t *testing.T) {
	r := rand.New(rand.NewSource(3))
	for i := range 4000 {
		x, y := big.NewInt(1), big.NewInt(0)
		for range r.Intn(400) {
			q := int64(1)
			switch i % 4 {
			case 1:
				q = 1 + r.Int63n(3)
			case 2:
				q = 1 + r.Int63()>>r.Intn(63)
			case 3:
				q = 1 + r.Int63()>>(31+r.Intn(2))
			}
			y.Add(y, new(big.Int).Mul(x, big.NewInt(q)))
			x, y = y, x
			if x.BitLen() > 1200 {
				break
			}
		}
		g := toBig(sample(r, 4))
		a, b := fromBig(new(big.Int).Mul(x, g)), fromBig(new(big.Int).Mul(y, g))
		is(t, integer.Gcd(a, b), g.Abs(g), "Gcd", a, b)
	}
}

// TestGcdOfNeighbors has numbers whose leading bits agree, or differ in length by about a limb.
func TestGcdOfNeighbors(t *testing.T) {
	r := rand.New(rand.NewSource(4))
	for range 20000 {
		a := toBig(sample(r, 12))
		b := new(big.Int).Add(a, toBig(sample(r, 1+r.Intn(11))))
		b.Rsh(b, uint(r.Intn(3)*r.Intn(40)))
		checkPair(t, fromBig(a), fromBig(b))
	}
}

func TestDivisionWithEdgeDigits(t *testing.T) {
	r := rand.New(rand.NewSource(5))
	for range 40000 {
		b, q := sample(r, 6), sample(r, 6)
		y := toBig(b)
		if y.Sign() == 0 {
			continue
		}
		// Remainders next to 0 and to the divisor are where a digit that is guessed too large shows.
		rest := big.NewInt(int64(r.Intn(3)))
		if r.Intn(2) == 0 {
			rest.Sub(new(big.Int).Abs(y), big.NewInt(int64(1+r.Intn(3))))
		}
		a := new(big.Int).Mul(y, toBig(q))
		checkPair(t, fromBig(a.Add(a, rest)), b)
	}
}

func TestArgumentsAreNotModified(t *testing.T) {
	r := rand.New(rand.NewSource(6))
	for range 3000 {
		a, b := sample(r, 10), sample(r, 6)
		// Spare room behind the limbs is not the functions' to write to, either.
		a.Mag = append(slices.Clone(a.Mag), 11, 12, 13)[:len(a.Mag)]
		before, spare, other := slices.Clone(a.Mag), a.Mag[:len(a.Mag)+3], slices.Clone(b.Mag)
		for _, c := range []api.Int{a, b, {}} {
			callAll(a, c)
			callAll(c, a)
		}
		if !slices.Equal(a.Mag, before) || !slices.Equal(spare[len(before):], []uint32{11, 12, 13}) || !slices.Equal(b.Mag, other) {
			t.Fatalf("%v, %v were modified", before, other)
		}
	}
}

// callAll calls all functions that take integers.
func callAll(a, b api.Int) {
	integer.Valid(a)
	integer.Small(a)
	integer.Cmp(a, b)
	integer.Sign(a)
	integer.Neg(a)
	integer.Add(a, b)
	integer.Sub(a, b)
	integer.Mul(a, b)
	integer.Pow(a, 5)
	integer.DivMod(a, b)
	integer.Gcd(a, b)
	integer.Text(a)
}

func TestResultsDependOnArgumentsOnly(t *testing.T) {
	r := rand.New(rand.NewSource(7))
	for range 2000 {
		a, b := sample(r, 8), sample(r, 5)
		first := results(a, b)
		results(b, a)
		again := results(api.Int{Neg: a.Neg, Mag: slices.Clone(a.Mag)}, api.Int{Neg: b.Neg, Mag: slices.Clone(b.Mag)})
		if !slices.Equal(first, again) {
			t.Fatalf("%v, %v: %v, then %v", a, b, first, again)
		}
	}
}

// results returns the notations of the results of the functions of two integers.
func results(a, b api.Int) []string {
	q, r, err := integer.DivMod(a, b)
	out := []string{err.Error()}
	for _, c := range []api.Int{integer.Add(a, b), integer.Sub(a, b), integer.Mul(a, b), integer.Gcd(a, b), q, r} {
		out = append(out, integer.Text(c))
	}
	return out
}
