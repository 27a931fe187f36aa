package rational_test

import (
	"math"
	"slices"
	"testing"

	"quadrature/api"
	"quadrature/integer"
	"quadrature/rational"
)

// whole returns the integer with the notation s.
func whole(t *testing.T, s string) api.Int {
	t.Helper()
	a, err := integer.Read(s)
	if err != api.OK {
		t.Fatalf("integer.Read(%q): %v", s, err)
	}
	return a
}

// read returns the number with the notation s.
func read(t *testing.T, s string) api.Rat {
	t.Helper()
	a, err := rational.Read(s)
	if err != api.OK {
		t.Fatalf("Read(%q): %v", s, err)
	}
	return a
}

// mustBe checks that a result has the notations num and den, and the sign where it belongs.
func mustBe(t *testing.T, call string, a api.Rat, num, den string) {
	t.Helper()
	if !identical(a.Num, whole(t, num)) || !identical(a.Den, whole(t, den)) {
		t.Errorf("%s = %v, want %s/%s", call, a, num, den)
	}
}

// mustFail checks a result that comes with an error.
func mustFail(t *testing.T, call string, a api.Rat, err, want api.Errno) {
	t.Helper()
	if err != want || !isZeroValue(a) {
		t.Errorf("%s = %v, %v, want the zero value and %v", call, a, err, want)
	}
}

// isZeroValue reports whether a is the zero value of its type, which is not the number 0.
func isZeroValue(a api.Rat) bool {
	return !a.Num.Neg && len(a.Num.Mag) == 0 && !a.Den.Neg && len(a.Den.Mag) == 0
}

// identical reports whether a and b have the same fields.
func identical(a, b api.Int) bool { return a.Neg == b.Neg && slices.Equal(a.Mag, b.Mag) }

func TestExamplesOfTheChapter(t *testing.T) {
	one, zero := integer.Of(1), integer.Of(0)
	a, err := rational.Of(integer.Of(2), integer.Of(-4))
	if err != api.OK {
		t.Error(err)
	}
	mustBe(t, "Of(2, -4)", a, "-1", "2")
	a, err = rational.Of(zero, integer.Of(7))
	if err != api.OK {
		t.Error(err)
	}
	mustBe(t, "Of(0, 7)", a, "0", "1")
	a, err = rational.Of(one, zero)
	mustFail(t, "Of(1, 0)", a, err, api.ErrZero)

	half, third := read(t, "1/2"), read(t, "1/3")
	mustBe(t, "1/2 + 1/3", rational.Add(half, third), "5", "6")
	mustBe(t, "1/2 - 1/2", rational.Sub(half, half), "0", "1")
	mustBe(t, "2/3 * 3/4", rational.Mul(read(t, "2/3"), read(t, "3/4")), "1", "2")
	a, err = rational.Div(half, rational.Whole(0))
	mustFail(t, "1/2 / 0", a, err, api.ErrZero)

	a, err = rational.Pow(read(t, "2/3"), -2)
	if err != api.OK {
		t.Error(err)
	}
	mustBe(t, "Pow(2/3, -2)", a, "9", "4")
	a, err = rational.Pow(rational.Whole(0), 0)
	if err != api.OK {
		t.Error(err)
	}
	mustBe(t, "Pow(0, 0)", a, "1", "1")
	a, err = rational.Pow(rational.Whole(0), -1)
	mustFail(t, "Pow(0, -1)", a, err, api.ErrZero)
	a, err = rational.Pow(rational.Whole(1), 257)
	mustFail(t, "Pow(1, 257)", a, err, api.ErrArg)

	if rational.Cmp(read(t, "-1/2"), read(t, "-1/3")) != -1 {
		t.Error("Cmp(-1/2, -1/3) is not -1")
	}
	for s, floor := range map[string]int64{"7/2": 3, "-7/2": -4, "3": 3, "-1/2": -1} {
		if !identical(rational.Floor(read(t, s)), integer.Of(floor)) {
			t.Errorf("Floor(%s) is not %d", s, floor)
		}
	}
	minusHalf, _ := rational.Of(integer.Of(-1), integer.Of(2))
	if rational.Text(minusHalf) != "-1/2" || rational.Text(rational.Whole(3)) != "3" {
		t.Errorf("Text(-1/2) = %q, Text(3) = %q", rational.Text(minusHalf), rational.Text(rational.Whole(3)))
	}
	a, err = rational.Read("4/6")
	if err != api.OK {
		t.Error(err)
	}
	mustBe(t, "Read(4/6)", a, "2", "3")
	for _, s := range []string{"-0", "1/0", "1/", "2/-4"} {
		a, err = rational.Read(s)
		mustFail(t, "Read("+s+")", a, err, api.ErrForm)
	}
}

func TestOf(t *testing.T) {
	for _, x := range []struct{ n, d, num, den string }{
		{"1", "1", "1", "1"}, {"-1", "1", "-1", "1"}, {"1", "-1", "-1", "1"}, {"-1", "-1", "1", "1"},
		{"2", "-4", "-1", "2"}, {"-2", "-4", "1", "2"}, {"-2", "4", "-1", "2"}, {"6", "3", "2", "1"}, {"3", "6", "1", "2"},
		{"0", "7", "0", "1"}, {"0", "-7", "0", "1"}, {"0", "1", "0", "1"}, {"0", "18446744073709551616", "0", "1"},
		{"5", "7", "5", "7"}, {"5", "-7", "-5", "7"},
		{"18446744073709551616", "-4294967296", "-4294967296", "1"},
		{"4294967296", "18446744073709551616", "1", "4294967296"},
		{"-36893488147419103230", "340282366920938463426481119284349108225", "-2", "18446744073709551615"},
		{"79228162514264337593543950336", "-79228162514264337593543950336", "-1", "1"},
	} {
		a, err := rational.Of(whole(t, x.n), whole(t, x.d))
		if err != api.OK {
			t.Errorf("Of(%s, %s): %v", x.n, x.d, err)
		}
		mustBe(t, "Of("+x.n+", "+x.d+")", a, x.num, x.den)
	}
	for _, n := range []string{"0", "1", "-5", "18446744073709551616"} {
		a, err := rational.Of(whole(t, n), integer.Of(0))
		mustFail(t, "Of("+n+", 0)", a, err, api.ErrZero)
		a, err = rational.Of(whole(t, n), api.Int{Mag: []uint32{}})
		mustFail(t, "Of("+n+", empty limbs)", a, err, api.ErrZero)
	}
}

func TestPartsOfOfShareNoMemory(t *testing.T) {
	for _, n := range []int64{1, -1, 5, 1 << 40} {
		a := integer.Of(n)
		f, err := rational.Of(a, a)
		if err != api.OK || len(f.Num.Mag) != 1 || len(f.Den.Mag) != 1 || &f.Num.Mag[0] == &f.Den.Mag[0] {
			t.Errorf("Of(%d, %d) = %v, %v, with shared memory or a wrong value", n, n, f, err)
		}
	}
}

func TestWhole(t *testing.T) {
	for n, s := range map[int64]string{
		0: "0", 1: "1", -1: "-1", 7: "7", 1 << 32: "4294967296", -1 << 32: "-4294967296",
		math.MaxInt64: "9223372036854775807", math.MinInt64: "-9223372036854775808", math.MinInt64 + 1: "-9223372036854775807",
	} {
		mustBe(t, "Whole("+s+")", rational.Whole(n), s, "1")
	}
}

// fraction returns the fraction with small parts, in lowest terms or not.
func fraction(n, d int64) api.Rat { return api.Rat{Num: integer.Of(n), Den: integer.Of(d)} }

func TestValid(t *testing.T) {
	for _, a := range []api.Rat{
		fraction(0, 1), fraction(1, 1), fraction(-1, 1), fraction(1, 2), fraction(-3, 2), fraction(math.MinInt64, math.MaxInt64),
		{Num: api.Int{Mag: []uint32{}}, Den: integer.Of(1)},
		{Num: api.Int{Mag: []uint32{0, 0, 1}}, Den: api.Int{Mag: []uint32{1, 0, 1}}},
	} {
		if !rational.Valid(a) {
			t.Errorf("%v is not valid", a)
		}
	}
	one := integer.Of(1)
	for _, a := range []api.Rat{
		{}, fraction(1, 0), fraction(0, 0), {Num: one, Den: api.Int{Mag: []uint32{}}},
		fraction(1, -1), fraction(1, -2), fraction(-1, -2), fraction(0, -1),
		fraction(2, 4), fraction(-2, 4), fraction(6, 3), fraction(5, 5), fraction(0, 2), fraction(0, 7),
		{Num: api.Int{Mag: []uint32{0, 0, 1}}, Den: api.Int{Mag: []uint32{0, 1}}},
		{Num: api.Int{Neg: true}, Den: one}, {Num: api.Int{Mag: []uint32{0}}, Den: one}, {Num: api.Int{Mag: []uint32{1, 0}}, Den: one},
		{Num: one, Den: api.Int{Neg: true}}, {Num: one, Den: api.Int{Mag: []uint32{0}}}, {Num: one, Den: api.Int{Mag: []uint32{2, 0}}},
		{Num: api.Int{Mag: []uint32{3, 0}}, Den: api.Int{Mag: []uint32{2, 0}}},
	} {
		if rational.Valid(a) {
			t.Errorf("%v is valid", a)
		}
	}
}

func TestCmpAndSign(t *testing.T) {
	increasing := []string{
		"-79228162514264337593543950336", "-18446744073709551616/3", "-18446744073709551615/4294967296", "-7/2", "-3", "-1",
		"-18446744073709551615/18446744073709551616", "-1/2", "-1/3", "-1/79228162514264337593543950336",
		"0",
		"1/79228162514264337593543950337", "1/79228162514264337593543950336", "1/3", "1/2", "18446744073709551615/18446744073709551616",
		"1", "18446744073709551617/18446744073709551616", "3", "7/2", "18446744073709551616/3", "79228162514264337593543950336",
	}
	zero := slices.Index(increasing, "0")
	for i, s := range increasing {
		a := read(t, s)
		if got, want := rational.Sign(a), sign(i-zero); got != want {
			t.Errorf("Sign(%s) = %d", s, got)
		}
		for k, u := range increasing {
			if got, want := rational.Cmp(a, read(t, u)), sign(i-k); got != want {
				t.Errorf("Cmp(%s, %s) = %d", s, u, got)
			}
		}
	}
}

// sign returns the sign of n.
func sign(n int) int {
	switch {
	case n < 0:
		return -1
	case n > 0:
		return 1
	}
	return 0
}

func TestArithmetic(t *testing.T) {
	for _, x := range []struct{ a, b, sum, difference, product, quotient string }{
		{"1/2", "1/3", "5/6", "1/6", "1/6", "3/2"},
		{"1/6", "1/3", "1/2", "-1/6", "1/18", "1/2"},
		{"1/6", "1/10", "4/15", "1/15", "1/60", "5/3"},
		{"5/6", "1/6", "1", "2/3", "5/36", "5"},
		{"1/2", "-1/2", "0", "1", "-1/4", "-1"},
		{"1/2", "1/2", "1", "0", "1/4", "1"},
		{"2/3", "3/4", "17/12", "-1/12", "1/2", "8/9"},
		{"2/3", "3/2", "13/6", "-5/6", "1", "4/9"},
		{"-4/9", "-3/8", "-59/72", "-5/72", "1/6", "32/27"},
		{"0", "-5/7", "-5/7", "5/7", "0", "0"},
		{"3", "-2", "1", "5", "-6", "-3/2"},
		{"3", "1/2", "7/2", "5/2", "3/2", "6"},
		{"1/18446744073709551616", "-1/4294967296", "-4294967295/18446744073709551616", "4294967297/18446744073709551616", "-1/79228162514264337593543950336", "-1/4294967296"},
		{"18446744073709551615/2", "2/18446744073709551615", "340282366920938463426481119284349108229/36893488147419103230", "340282366920938463426481119284349108221/36893488147419103230", "1", "340282366920938463426481119284349108225/4"},
	} {
		a, b := read(t, x.a), read(t, x.b)
		quotient, err := rational.Div(a, b)
		if err != api.OK {
			t.Errorf("%s / %s: %v", x.a, x.b, err)
		}
		for _, y := range []struct {
			operator, want string
			got            api.Rat
		}{
			{" + ", x.sum, rational.Add(a, b)}, {" - ", x.difference, rational.Sub(a, b)},
			{" * ", x.product, rational.Mul(a, b)}, {" / ", x.quotient, quotient},
		} {
			if !rational.Valid(y.got) || rational.Text(y.got) != y.want {
				t.Errorf("%s%s%s = %v", x.a, y.operator, x.b, y.got)
			}
		}
	}
	for s, negative := range map[string]string{"0": "0", "1/2": "-1/2", "-1/2": "1/2", "3": "-3", "-18446744073709551616/3": "18446744073709551616/3"} {
		if a := rational.Neg(read(t, s)); !rational.Valid(a) || rational.Text(a) != negative {
			t.Errorf("Neg(%s) = %v", s, a)
		}
	}
}

func TestDivisionByZero(t *testing.T) {
	for _, s := range []string{"0", "1", "-1", "1/2", "-18446744073709551616/3"} {
		a, err := rational.Div(read(t, s), rational.Whole(0))
		mustFail(t, s+" / 0", a, err, api.ErrZero)
		a, err = rational.Div(read(t, s), api.Rat{Num: api.Int{Mag: []uint32{}}, Den: integer.Of(1)})
		mustFail(t, s+" / empty limbs", a, err, api.ErrZero)
	}
}

func TestPow(t *testing.T) {
	for _, x := range []struct {
		base  string
		n     int
		power string
	}{
		{"2/3", 0, "1"}, {"2/3", 1, "2/3"}, {"2/3", -1, "3/2"}, {"2/3", 2, "4/9"}, {"2/3", -2, "9/4"},
		{"-2/3", 0, "1"}, {"-2/3", 1, "-2/3"}, {"-2/3", -1, "-3/2"}, {"-2/3", -2, "9/4"}, {"-2/3", -3, "-27/8"}, {"-2/3", 3, "-8/27"}, {"-2/3", 4, "16/81"}, {"-2/3", -4, "81/16"},
		{"-2", -1, "-1/2"}, {"-1/2", -1, "-2"}, {"-1/2", -2, "4"}, {"-1", 255, "-1"}, {"-1", -255, "-1"}, {"-1", 256, "1"}, {"-1", -256, "1"}, {"1", -256, "1"},
		{"0", 0, "1"}, {"0", 1, "0"}, {"0", 256, "0"},
		{"10", 20, "100000000000000000000"}, {"-1/10", -21, "-1000000000000000000000"}, {"3/10", 11, "177147/100000000000"},
	} {
		a, err := rational.Pow(read(t, x.base), x.n)
		if err != api.OK || !rational.Valid(a) || rational.Text(a) != x.power {
			t.Errorf("Pow(%s, %d) = %v, %v", x.base, x.n, a, err)
		}
	}
}

func TestPowAtTheLimits(t *testing.T) {
	two, err := integer.Pow(integer.Of(2), api.MaxPow)
	if err != api.OK {
		t.Fatal(err)
	}
	three, err := integer.Pow(integer.Of(3), api.MaxPow)
	if err != api.OK {
		t.Fatal(err)
	}
	for _, s := range []string{"2/3", "-2/3"} {
		a, err := rational.Pow(read(t, s), 256)
		if err != api.OK || !identical(a.Num, two) || !identical(a.Den, three) {
			t.Errorf("Pow(%s, 256) = %v, %v", s, a, err)
		}
		a, err = rational.Pow(read(t, s), -256)
		if err != api.OK || !identical(a.Num, three) || !identical(a.Den, two) {
			t.Errorf("Pow(%s, -256) = %v, %v", s, a, err)
		}
	}
}

func TestPowRefusals(t *testing.T) {
	for _, n := range []int{-257, 257, -1000, 1000, math.MinInt, math.MinInt + 1, math.MaxInt} {
		for _, s := range []string{"0", "1", "-2/3"} {
			a, err := rational.Pow(read(t, s), n)
			mustFail(t, "Pow("+s+", out of range)", a, err, api.ErrArg)
		}
	}
	for _, n := range []int{-1, -2, -256} {
		a, err := rational.Pow(rational.Whole(0), n)
		mustFail(t, "Pow(0, negative)", a, err, api.ErrZero)
	}
}

func TestFloor(t *testing.T) {
	for s, floor := range map[string]string{
		"0": "0", "1": "1", "-1": "-1", "3": "3", "-3": "-3",
		"1/2": "0", "-1/2": "-1", "7/2": "3", "-7/2": "-4", "2/3": "0", "-2/3": "-1",
		"299/100": "2", "301/100": "3", "-299/100": "-3", "-301/100": "-4", "-1/1000000000000": "-1", "1/1000000000000": "0",
		"18446744073709551616":                       "18446744073709551616",
		"-18446744073709551616":                      "-18446744073709551616",
		"340282366920938463463374607431768211457/2":  "170141183460469231731687303715884105728",
		"-340282366920938463463374607431768211457/2": "-170141183460469231731687303715884105729",
		"55340232221128654847/18446744073709551616":  "2",
		"55340232221128654849/18446744073709551616":  "3",
		"-55340232221128654847/18446744073709551616": "-3",
		"-55340232221128654849/18446744073709551616": "-4",
	} {
		if got := rational.Floor(read(t, s)); !identical(got, whole(t, floor)) {
			t.Errorf("Floor(%s) = %v", s, got)
		}
	}
}
