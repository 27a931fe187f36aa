package integer_test

import (
	"math"
	"slices"
	"testing"

	"quadrature/api"
	"quadrature/integer"
)

// read returns the integer with the notation s.
func read(t *testing.T, s string) api.Int {
	t.Helper()
	a, err := integer.Read(s)
	if err != api.OK {
		t.Fatalf("Read(%q): %v", s, err)
	}
	return a
}

func TestOfAndSmall(t *testing.T) {
	for _, x := range []struct {
		n   int64
		neg bool
		mag []uint32
	}{
		{0, false, nil}, {1, false, []uint32{1}}, {-1, true, []uint32{1}}, {-5, true, []uint32{5}},
		{math.MaxUint32, false, []uint32{math.MaxUint32}}, {-math.MaxUint32, true, []uint32{math.MaxUint32}},
		{1 << 32, false, []uint32{0, 1}}, {-1 << 32, true, []uint32{0, 1}},
		{math.MaxInt64, false, []uint32{math.MaxUint32, math.MaxInt32}},
		{math.MinInt64 + 1, true, []uint32{math.MaxUint32, math.MaxInt32}},
		{math.MinInt64, true, []uint32{0, 1 << 31}},
	} {
		a := integer.Of(x.n)
		if a.Neg != x.neg || !slices.Equal(a.Mag, x.mag) {
			t.Errorf("Of(%d) = %v", x.n, a)
		}
		if n, ok := integer.Small(a); n != x.n || !ok {
			t.Errorf("Small(%d) = %d, %v", x.n, n, ok)
		}
	}
}

func TestSmallRefusesWhatIsOutOfRange(t *testing.T) {
	for _, s := range []string{
		"9223372036854775808", "-9223372036854775809", "18446744073709551615", "-18446744073709551615",
		"18446744073709551616", "-18446744073709551616", "79228162514264337593543950336",
	} {
		if n, ok := integer.Small(read(t, s)); n != 0 || ok {
			t.Errorf("Small(%s) = %d, %v", s, n, ok)
		}
	}
}

func TestValid(t *testing.T) {
	for _, a := range []api.Int{
		{}, {Mag: []uint32{}}, {Mag: []uint32{1}}, {Neg: true, Mag: []uint32{1}}, {Mag: []uint32{0, 1}},
		{Neg: true, Mag: []uint32{0, 0, math.MaxUint32}},
	} {
		if !integer.Valid(a) {
			t.Errorf("%v is not valid", a)
		}
	}
	for _, a := range []api.Int{
		{Neg: true}, {Neg: true, Mag: []uint32{}}, {Mag: []uint32{0}}, {Neg: true, Mag: []uint32{0}},
		{Mag: []uint32{1, 0}}, {Mag: []uint32{0, 0}}, {Neg: true, Mag: []uint32{0, 1, 0}},
	} {
		if integer.Valid(a) {
			t.Errorf("%v is valid", a)
		}
	}
}

func TestEmptyLimbsAreNoLimbs(t *testing.T) {
	zero := api.Int{Mag: []uint32{}}
	if integer.Cmp(zero, api.Int{}) != 0 || integer.Sign(zero) != 0 || integer.Text(zero) != "0" {
		t.Error("the empty limbs are not 0")
	}
	if _, _, err := integer.DivMod(integer.Of(1), zero); err != api.ErrZero {
		t.Errorf("division by the empty limbs: %v", err)
	}
	if a := integer.Add(zero, integer.Of(3)); integer.Text(a) != "3" {
		t.Errorf("0 + 3 = %v", a)
	}
}

func TestCmpAndSign(t *testing.T) {
	increasing := []string{
		"-340282366920938463463374607431768211456", "-18446744073709551616", "-18446744073709551615", "-4294967296", "-7", "-1",
		"0", "1", "7", "4294967295", "4294967296", "8589934591", "18446744073709551615", "18446744073709551616",
	}
	zero := slices.Index(increasing, "0")
	for i, s := range increasing {
		a := read(t, s)
		if got, want := integer.Sign(a), sign(i-zero); got != want {
			t.Errorf("Sign(%s) = %d", s, got)
		}
		for k, u := range increasing {
			if got, want := integer.Cmp(a, read(t, u)), sign(i-k); got != want {
				t.Errorf("Cmp(%s, %s) = %d", s, u, got)
			}
		}
	}
}

// sign returns the sign of n.
func sign(n int) int {
	switch {
	case n < 0:
		return -1
	case n > 0:
		return 1
	}
	return 0
}

func TestArithmetic(t *testing.T) {
	for _, x := range []struct{ a, b, sum, difference, product string }{
		{"0", "0", "0", "0", "0"},
		{"0", "-3", "-3", "3", "0"},
		{"5", "-7", "-2", "12", "-35"},
		{"-5", "-7", "-12", "2", "35"},
		{"4294967295", "1", "4294967296", "4294967294", "4294967295"},
		{"-4294967296", "4294967296", "0", "-8589934592", "-18446744073709551616"},
		{"18446744073709551616", "-1", "18446744073709551615", "18446744073709551617", "-18446744073709551616"},
		{"18446744073709551615", "18446744073709551615", "36893488147419103230", "0", "340282366920938463426481119284349108225"},
	} {
		a, b := read(t, x.a), read(t, x.b)
		if s := integer.Text(integer.Add(a, b)); s != x.sum {
			t.Errorf("%s + %s = %s", x.a, x.b, s)
		}
		if s := integer.Text(integer.Sub(a, b)); s != x.difference {
			t.Errorf("%s - %s = %s", x.a, x.b, s)
		}
		if s := integer.Text(integer.Mul(a, b)); s != x.product {
			t.Errorf("%s * %s = %s", x.a, x.b, s)
		}
	}
	for _, x := range [][2]string{{"0", "0"}, {"5", "-5"}, {"-18446744073709551616", "18446744073709551616"}} {
		if a := integer.Neg(read(t, x[0])); integer.Text(a) != x[1] || !integer.Valid(a) {
			t.Errorf("Neg(%s) = %v", x[0], a)
		}
	}
}

func TestPow(t *testing.T) {
	for _, x := range []struct {
		a    string
		n    int
		want string
	}{
		{"0", 0, "1"}, {"0", 1, "0"}, {"0", 256, "0"}, {"7", 0, "1"}, {"-7", 0, "1"}, {"-7", 1, "-7"}, {"-1", 255, "-1"}, {"-1", 256, "1"},
		{"2", 32, "4294967296"}, {"-3", 41, "-36472996377170786403"}, {"10", 20, "100000000000000000000"}, {"-4294967296", 2, "18446744073709551616"},
	} {
		p, err := integer.Pow(read(t, x.a), x.n)
		if err != api.OK || integer.Text(p) != x.want {
			t.Errorf("Pow(%s, %d) = %s, %v", x.a, x.n, integer.Text(p), err)
		}
	}
	want := append(make([]uint32, 8), 1)
	if p, err := integer.Pow(integer.Of(2), 256); err != api.OK || p.Neg || !slices.Equal(p.Mag, want) {
		t.Errorf("Pow(2, 256) = %v, %v", p, err)
	}
	for _, n := range []int{-1, 257, math.MinInt, math.MaxInt} {
		for _, a := range []int64{0, 1, 2} {
			if p, err := integer.Pow(integer.Of(a), n); err != api.ErrArg || p.Neg || p.Mag != nil {
				t.Errorf("Pow(%d, %d) = %v, %v", a, n, p, err)
			}
		}
	}
}

func TestDivMod(t *testing.T) {
	for _, x := range []struct{ a, b, q, r string }{
		{"7", "2", "3", "1"}, {"-7", "2", "-4", "1"}, {"7", "-2", "-3", "1"}, {"-7", "-2", "4", "1"},
		{"6", "3", "2", "0"}, {"-6", "3", "-2", "0"}, {"6", "-3", "-2", "0"}, {"-6", "-3", "2", "0"},
		{"2", "5", "0", "2"}, {"-2", "5", "-1", "3"}, {"2", "-5", "0", "2"}, {"-2", "-5", "1", "3"},
		{"0", "5", "0", "0"}, {"0", "-5", "0", "0"},
		{"18446744073709551615", "-1", "-18446744073709551615", "0"},
		{"-18446744073709551616", "18446744073709551617", "-1", "1"},
		{"340282366920938463426481119284349108225", "18446744073709551615", "18446744073709551615", "0"},
		{"340282366920938463463374607431768211455", "18446744073709551616", "18446744073709551615", "18446744073709551615"},
		// The first guess of the digit is one too large even after it has been corrected.
		{"170141183420855150400768158628568891395", "39614081275578912866186559486", "4294967292", "39614081275578912866186559483"},
	} {
		q, r, err := integer.DivMod(read(t, x.a), read(t, x.b))
		if err != api.OK || integer.Text(q) != x.q || integer.Text(r) != x.r {
			t.Errorf("DivMod(%s, %s) = %s, %s, %v", x.a, x.b, integer.Text(q), integer.Text(r), err)
		}
	}
	for _, a := range []string{"0", "1", "-1", "-18446744073709551616"} {
		q, r, err := integer.DivMod(read(t, a), api.Int{})
		if err != api.ErrZero || q.Neg || q.Mag != nil || r.Neg || r.Mag != nil {
			t.Errorf("DivMod(%s, 0) = %v, %v, %v", a, q, r, err)
		}
	}
}

func TestGcd(t *testing.T) {
	for _, x := range [][3]string{
		{"0", "0", "0"}, {"0", "-5", "5"}, {"-5", "0", "5"}, {"5", "0", "5"}, {"-12", "18", "6"}, {"12", "-18", "6"}, {"-24", "-36", "12"}, {"17", "5", "1"}, {"1", "-1", "1"},
		{"-18446744073709551616", "0", "18446744073709551616"}, {"18446744073709551616", "-6", "2"},
		{"100000000000000000000000000000000000000000", "79228162514264337593543950336", "2199023255552"},
	} {
		if g := integer.Text(integer.Gcd(read(t, x[0]), read(t, x[1]))); g != x[2] {
			t.Errorf("Gcd(%s, %s) = %s", x[0], x[1], g)
		}
	}
}

// TestInvalidIntegers covers what the document leaves open: a call for an integer that is not valid ends without a panic, with valid results.
func TestInvalidIntegers(t *testing.T) {
	list := []api.Int{
		{}, {Neg: true}, {Mag: []uint32{0}}, {Neg: true, Mag: []uint32{0, 0, 0}}, {Mag: []uint32{1, 0}}, {Neg: true, Mag: []uint32{5, 6, 7, 8, 0, 0}},
	}
	for _, a := range list {
		integer.Small(a)
		integer.Sign(a)
		integer.Text(a)
		p, _ := integer.Pow(a, 3)
		mustBeValid(t, integer.Neg(a), p)
		for _, b := range list {
			integer.Cmp(a, b)
			q, r, _ := integer.DivMod(a, b)
			mustBeValid(t, integer.Add(a, b), integer.Sub(a, b), integer.Mul(a, b), q, r, integer.Gcd(a, b))
		}
	}
}

// mustBeValid checks the representation of results.
func mustBeValid(t *testing.T, results ...api.Int) {
	t.Helper()
	for _, a := range results {
		if !integer.Valid(a) {
			t.Errorf("%v is not valid", a)
		}
	}
}
