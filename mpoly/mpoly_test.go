package mpoly_test

import (
	"math"
	"math/big"
	"slices"
	"strconv"
	"strings"
	"testing"

	"quadrature/api"
	"quadrature/integer"
	"quadrature/mpoly"
	"quadrature/rational"
)

// names are those of the variables 0 to 3 in the notations of the tests.
const names = "xyzw"

// number returns the rational number with the notation s.
func number(t *testing.T, s string) api.Rat {
	t.Helper()
	c, err := rational.Read(s)
	if err != api.OK {
		t.Fatalf("rational.Read(%q): %v", s, err)
	}
	return c
}

// term returns the term with the notation s, as in "-2/3 x^2 y".
func term(t *testing.T, s string) api.Mono {
	t.Helper()
	c := big.NewRat(1, 1)
	if rest, ok := strings.CutPrefix(s, "-"); ok {
		c, s = big.NewRat(-1, 1), rest
	}
	var x api.Mono
	for word := range strings.FieldsSeq(s) {
		v := strings.IndexByte(names, word[0])
		if v < 0 {
			c.Mul(c, toBig(number(t, word)))
			continue
		}
		n := 1
		if _, after, ok := strings.Cut(word, "^"); ok {
			n, _ = strconv.Atoi(after)
		}
		x.E[v] += n
	}
	x.C = fromBig(c)
	return x
}

// terms returns the terms that s lists, as they stand.
func terms(t *testing.T, s string) []api.Mono {
	t.Helper()
	if s == "0" {
		return nil
	}
	var out []api.Mono
	for _, word := range strings.Split(strings.ReplaceAll(s, " - ", " + -"), " + ") {
		out = append(out, term(t, word))
	}
	return out
}

// of returns the polynomial with the notation s, whose terms must be in their order.
func of(t *testing.T, s string) api.MPoly {
	t.Helper()
	p := api.MPoly(terms(t, s))
	if !isValid(p) {
		t.Fatalf("%q is not the notation of a valid polynomial", s)
	}
	return p
}

// list returns the polynomials that s lists.
func list(t *testing.T, s string) []api.MPoly {
	t.Helper()
	var out []api.MPoly
	for word := range strings.SplitSeq(s, "; ") {
		if word != "" {
			out = append(out, of(t, word))
		}
	}
	return out
}

// isValid reports whether p is valid, by the definition of the chapter.
func isValid(p api.MPoly) bool {
	for i, x := range p {
		if slices.Min(x.E[:]) < 0 || !rational.Valid(x.C) || toBig(x.C).Sign() == 0 || i > 0 && !greater(p[i-1].E, x.E) {
			return false
		}
	}
	return true
}

// greater reports whether e is greater than f, by the definition of the chapter.
func greater(e, f [4]int) bool {
	for _, v := range []int{3, 2, 1, 0} {
		if e[v] != f[v] {
			return e[v] > f[v]
		}
	}
	return false
}

// text returns the notation of p.
func text(p api.MPoly) string {
	if len(p) == 0 {
		return "0"
	}
	out := ""
	for i, x := range p {
		var words []string
		for v, n := range x.E {
			if n == 1 {
				words = append(words, names[v:v+1])
			} else if n != 0 {
				words = append(words, names[v:v+1]+"^"+strconv.Itoa(n))
			}
		}
		c, negative := strings.CutPrefix(toBig(x.C).RatString(), "-")
		if c != "1" || len(words) == 0 {
			words = append([]string{c}, words...)
		}
		switch {
		case i == 0 && negative:
			out = "-"
		case i > 0 && negative:
			out += " - "
		case i > 0:
			out += " + "
		}
		out += strings.Join(words, " ")
	}
	return out
}

// texts returns the notations of polynomials.
func texts(l []api.MPoly) string {
	var words []string
	for _, p := range l {
		words = append(words, text(p))
	}
	return strings.Join(words, "; ")
}

// mustBe checks that a result is the polynomial with the notation want.
func mustBe(t *testing.T, call string, p api.MPoly, want string) {
	t.Helper()
	if !isValid(p) || !mpoly.Valid(p) || text(p) != want {
		t.Fatalf("%s = %s (valid: %v, %v), want %s", call, text(p), isValid(p), mpoly.Valid(p), want)
	}
}

// mustDivide checks that Div returns the quotient with the notation want, or none for the empty string.
func mustDivide(t *testing.T, a, b api.MPoly, want string) {
	t.Helper()
	q, ok := mpoly.Div(a, b)
	call := "Div(" + text(a) + ", " + text(b) + ")"
	if want == "" {
		if ok || len(q) != 0 {
			t.Fatalf("%s = %s, %v", call, text(q), ok)
		}
		return
	}
	if !ok {
		t.Fatalf("%s: there is no quotient, want %s", call, want)
	}
	mustBe(t, call, q, want)
}

// mustLeave checks that Pseudo returns the remainder with the notation want.
func mustLeave(t *testing.T, a, b api.MPoly, v int, want string) {
	t.Helper()
	r, err := mpoly.Pseudo(a, b, v)
	call := "Pseudo(" + text(a) + ", " + text(b) + ", " + strconv.Itoa(v) + ")"
	if err != api.OK {
		t.Fatalf("%s: %v", call, err)
	}
	mustBe(t, call, r, want)
}

// raw returns n/d as it stands, without taking out common factors.
func raw(n, d int64) api.Rat { return api.Rat{Num: integer.Of(n), Den: integer.Of(d)} }

func TestExamplesOfTheChapter(t *testing.T) {
	mustBe(t, "Make", mpoly.Make(terms(t, "x + -x + 2 y + y")), "3 y")
	if got := texts(mpoly.Coeffs(of(t, "x y + y + 3"), 1)); got != "3; x + 1" {
		t.Errorf("Coeffs of x y + y + 3 by y: %s", got)
	}
	mustDivide(t, of(t, "-y^2 + x^2"), of(t, "y + x"), "-y + x")
	mustDivide(t, of(t, "x"), of(t, "y"), "")
	mustLeave(t, of(t, "x^2"), of(t, "y + 2 x"), 0, "y^2")
	mustBe(t, "Subst", mpoly.Subst(of(t, "x^2 y"), 0, of(t, "x + 1")), "x^2 y + 2 x y + y")
}

func TestMake(t *testing.T) {
	for s, want := range map[string]string{
		// Nothing, and single terms.
		"0": "0", "1": "1", "-2/3": "-2/3", "x": "x", "5 x^2 y z^3 w": "5 x^2 y z^3 w", "0 x": "0", "0 1": "0",
		// Any order: the variable 3 counts first, then 2, 1, 0.
		"1 + x + y + z + w": "w + z + y + x + 1", "w + z + y + x + 1": "w + z + y + x + 1", "x^9 + y": "y + x^9", "x^9 y^9 + z": "z + x^9 y^9", "x^9 y^9 z^9 + w": "w + x^9 y^9 z^9",
		"x y + y^2 + x^2 y + y + x^3": "y^2 + x^2 y + x y + y + x^3", "x z + y z + z + z^2": "z^2 + y z + x z + z", "w x + w^2 + w y + w": "w^2 + y w + x w + w",
		// Equal exponents.
		"x + x": "2 x", "1 + 1 + 1": "3", "x y + 2 y x - 1/3 x y": "8/3 x y", "x^2 + y + 3 x^2 + y": "2 y + 4 x^2", "1/2 z + x + 1/2 z": "z + x",
		// Sums that cancel.
		"x - x": "0", "x + y - x": "y", "1/2 x + 1/3 x - 5/6 x": "0", "x - x + x": "x", "w^3 + 1 - w^3 - 1": "0", "x - x + y - y + z - z + 7": "7",
		// Coefficients 0.
		"0 x + 0 y": "0", "0 x + y": "y", "0 x + 2 x": "2 x", "0 + x^2": "x^2",
		// Negative exponents, also beside others that are not.
		"x^-1": "0", "x^-1 + 1": "1", "x^-1 y^2 + x y": "x y", "w^-3 x^5 + z": "z", "x^2 y^-1 + x^2": "x^2", "z^-2 + z^-2": "0", "x^-1 - x^-1 + x": "x",
	} {
		mustBe(t, "Make of "+s, mpoly.Make(terms(t, s)), want)
	}
	mustBe(t, "Make of the empty list", mpoly.Make([]api.Mono{}), "0")
}

func TestValid(t *testing.T) {
	for s, want := range map[string]bool{
		"0": true, "1": true, "-2/3": true, "x": true, "w": true, "x^100 y^200 z^300 w^400": true, "w + z + y + x + 1": true, "y + x^9": true, "z + x^9 y^9": true, "w + x^9 y^9 z^9": true, "y^2 + x^2 y + x y + y + x^3": true,
		// The wrong order, in each variable.
		"1 + x": false, "x + y": false, "y + z": false, "z + w": false, "x^9 + y": false, "x^9 y^9 z^9 + w": false, "x y + x^2 y": false, "w + x + z": false, "y + x + y^2": false,
		// Equal exponents.
		"x + x": false, "1 + 1": false, "x - x": false, "y + x + x + 1": false, "x y z w + x y z w": false,
		// Negative exponents.
		"x^-1": false, "1 + x^-1": false, "y^-1": false, "z^-1": false, "w^-1": false, "x^2 y^-1": false, "y + x^3 y^-1": false,
		// The coefficient 0.
		"0 1": false, "0 x": false, "y + 0 x": false, "0 y + x": false,
	} {
		if got := mpoly.Valid(terms(t, s)); got != want {
			t.Errorf("Valid(%s) = %v", s, got)
		}
	}
	if !mpoly.Valid(nil) || !mpoly.Valid(api.MPoly{}) {
		t.Error("0 is not valid")
	}
	one := integer.Of(1)
	for _, bad := range []api.Rat{
		{}, raw(1, 0), raw(0, 0), raw(1, -1), raw(-1, -2), raw(2, 4), raw(-6, 3), raw(5, 5), raw(0, 2),
		{Num: api.Int{Neg: true}, Den: one}, {Num: api.Int{Mag: []uint32{3, 0}}, Den: one}, {Num: one, Den: api.Int{Mag: []uint32{2, 0}}},
	} {
		for i := range 3 {
			p := of(t, "y + x + 1")
			p[i].C = bad
			if mpoly.Valid(p) || mpoly.Valid(p[i:i+1]) {
				t.Errorf("%v is valid", p)
			}
		}
	}
}

func TestEqual(t *testing.T) {
	different := list(t, "0; 1; -1; 1/2; 2; x; -x; 1/2 x; x^2; y; z; w; x + 1; x - 1; y + x; y + 2 x; y - x; x y; x y + 1; y + x + 1; w + z + y + x + 1; 18446744073709551616 x; 1/18446744073709551616 x")
	for i, a := range different {
		for k, b := range different {
			if mpoly.Equal(a, append(api.MPoly(nil), b...)) != (i == k) {
				t.Errorf("Equal(%s, %s) is wrong", text(a), text(b))
			}
		}
	}
	if !mpoly.Equal(nil, api.MPoly{}) || !mpoly.Equal(api.MPoly{}, nil) || !mpoly.Equal(nil, nil) {
		t.Error("nil and the empty list are different")
	}
}

func TestConstAndVar(t *testing.T) {
	for _, s := range []string{"0", "1", "-1", "2/3", "-7/2", "18446744073709551616", "-1/18446744073709551616"} {
		mustBe(t, "Const("+s+")", mpoly.Const(number(t, s)), s)
	}
	for v, want := range map[int]string{0: "x", 1: "y", 2: "z", 3: "w"} {
		mustBe(t, "Var of "+want, mpoly.Var(v), want)
	}
}

func TestSumsAndDifferences(t *testing.T) {
	for _, x := range []struct{ a, b, sum, difference string }{
		{"0", "0", "0", "0"}, {"0", "x", "x", "-x"}, {"x", "0", "x", "x"}, {"0", "-w + 1/2", "-w + 1/2", "w - 1/2"}, {"y^2 - 3", "0", "y^2 - 3", "y^2 - 3"},
		{"1", "2", "3", "-1"}, {"1/2", "1/3", "5/6", "1/6"}, {"x", "x", "2 x", "0"}, {"x", "-x", "0", "2 x"}, {"x", "y", "y + x", "-y + x"}, {"y", "x", "y + x", "y - x"}, {"w", "x^9", "w + x^9", "w - x^9"},
		// Terms that cancel at the beginning, in the middle, at the end, and all.
		{"y + x + 1", "-y + x + 1", "2 x + 2", "2 y"}, {"y + x + 1", "y - x + 1", "2 y + 2", "2 x"}, {"y + x + 1", "y + x - 1", "2 y + 2 x", "2"}, {"w + z + y", "-w - z - y", "0", "2 w + 2 z + 2 y"},
		// Terms in turn.
		{"w + y + 1", "z + x", "w + z + y + x + 1", "w - z + y - x + 1"}, {"x^4 + x^2 + 1", "x^3 + x", "x^4 + x^3 + x^2 + x + 1", "x^4 - x^3 + x^2 - x + 1"}, {"y^2 + y + 1", "x y + x", "y^2 + x y + y + x + 1", "y^2 - x y + y - x + 1"},
		{"x", "w + z + y + x + 1", "w + z + y + 2 x + 1", "-w - z - y - 1"},
	} {
		mustBe(t, "Add("+x.a+", "+x.b+")", mpoly.Add(of(t, x.a), of(t, x.b)), x.sum)
		mustBe(t, "Sub("+x.a+", "+x.b+")", mpoly.Sub(of(t, x.a), of(t, x.b)), x.difference)
	}
}

func TestMul(t *testing.T) {
	for _, x := range []struct{ a, b, want string }{
		{"0", "0", "0"}, {"0", "x + 1", "0"}, {"w + x", "0", "0"}, {"1", "y + x", "y + x"}, {"y + x", "1", "y + x"}, {"-2/3", "3 x + 1/2", "-2 x - 1/3"}, {"5", "1/5", "1"},
		{"x", "x", "x^2"}, {"x", "y", "x y"}, {"2 x w", "3 y z^2", "6 x y z^2 w"}, {"x^2 y", "y + x + 1", "x^2 y^2 + x^3 y + x^2 y"}, {"w + z", "1/2 x", "1/2 x w + 1/2 x z"},
		// Terms that cancel.
		{"y + x", "y - x", "y^2 - x^2"}, {"x - 1", "x^2 + x + 1", "x^3 - 1"}, {"y - x", "y^2 + x y + x^2", "y^3 - x^3"}, {"w + x + 1", "w - x - 1", "w^2 - x^2 - 2 x - 1"}, {"x^2 + 2 x + 2", "x^2 - 2 x + 2", "x^4 + 4"},
		// Sums.
		{"x + 1", "y + 1", "x y + y + x + 1"}, {"x + 1", "x + 1", "x^2 + 2 x + 1"}, {"w + z + y + x", "w + z + y + x", "w^2 + 2 z w + 2 y w + 2 x w + z^2 + 2 y z + 2 x z + y^2 + 2 x y + x^2"},
		// Fractions.
		{"1/2 x + 1/3", "6 x - 12", "3 x^2 - 4 x - 4"}, {"1/2 y + 1/3 x", "1/2 y - 1/3 x", "1/4 y^2 - 1/9 x^2"}, {"2/3 x + 4/3", "3/2 x + 9/2", "x^2 + 5 x + 6"}, {"x + 1/2", "y + 2", "x y + 1/2 y + 2 x + 1"},
		{"18446744073709551616 x + 1", "18446744073709551616 x - 1", "340282366920938463463374607431768211456 x^2 - 1"},
	} {
		mustBe(t, "Mul("+x.a+", "+x.b+")", mpoly.Mul(of(t, x.a), of(t, x.b)), x.want)
		mustBe(t, "Mul("+x.b+", "+x.a+")", mpoly.Mul(of(t, x.b), of(t, x.a)), x.want)
	}
}

func TestScale(t *testing.T) {
	for _, x := range []struct{ a, c, want string }{
		{"0", "0", "0"}, {"0", "5", "0"}, {"y + x", "0", "0"}, {"7", "0", "0"}, {"y + x", "1", "y + x"}, {"y + x", "-1", "-y - x"}, {"2 y + 1/3 x - 6", "3/2", "3 y + 1/2 x - 9"}, {"w^2 - 4/7", "-7/4", "-7/4 w^2 + 1"},
	} {
		mustBe(t, x.c+" times "+x.a, mpoly.Scale(of(t, x.a), number(t, x.c)), x.want)
	}
}

func TestPow(t *testing.T) {
	for _, x := range []struct {
		a    string
		n    int
		want string
	}{
		// Negative exponents.
		{"0", -1, "0"}, {"1", -1, "0"}, {"x", -1, "0"}, {"x + 1", -3, "0"}, {"2", math.MinInt, "0"},
		// The exponent 0, also of 0.
		{"0", 0, "1"}, {"1", 0, "1"}, {"-5/2", 0, "1"}, {"x", 0, "1"}, {"w + x", 0, "1"},
		// The exponent 1.
		{"0", 1, "0"}, {"-5/2", 1, "-5/2"}, {"x", 1, "x"}, {"2 w - 1/3 x", 1, "2 w - 1/3 x"},
		// More.
		{"0", 2, "0"}, {"0", math.MaxInt, "0"}, {"1", math.MaxInt, "1"}, {"-1", math.MaxInt, "-1"}, {"-1", math.MaxInt - 1, "1"}, {"-2/3", 2, "4/9"}, {"-2/3", 5, "-32/243"}, {"x", 1000000000, "x^1000000000"},
		{"-2 x^2 y", 3, "-8 x^6 y^3"}, {"-2 x^2 w", 4, "16 x^8 w^4"}, {"x + 1", 2, "x^2 + 2 x + 1"}, {"x - 1", 3, "x^3 - 3 x^2 + 3 x - 1"}, {"y + x", 5, "y^5 + 5 x y^4 + 10 x^2 y^3 + 10 x^3 y^2 + 5 x^4 y + x^5"},
		{"1/2 x + 1/3", 2, "1/4 x^2 + 1/3 x + 1/9"}, {"1/2 x - 1", 4, "1/16 x^4 - 1/2 x^3 + 3/2 x^2 - 2 x + 1"}, {"6 x - 4", 3, "216 x^3 - 432 x^2 + 288 x - 64"}, {"z + y + x", 2, "z^2 + 2 y z + 2 x z + y^2 + 2 x y + x^2"},
	} {
		mustBe(t, "Pow("+x.a+", "+strconv.Itoa(x.n)+")", mpoly.Pow(of(t, x.a), x.n), x.want)
	}
}

func TestBinomialTheorem(t *testing.T) {
	// The exponent is beyond those that rational.Pow takes.
	const n = 300
	p := mpoly.Pow(of(t, "y - 2 x"), n)
	if len(p) != n+1 || !isValid(p) {
		t.Fatalf("the power has %d terms", len(p))
	}
	for k, x := range p {
		want := new(big.Int).Binomial(n, int64(k))
		want.Mul(want, new(big.Int).Exp(big.NewInt(-2), big.NewInt(int64(k)), nil))
		if x.E != [4]int{k, n - k} || toBig(x.C).Cmp(new(big.Rat).SetInt(want)) != 0 {
			t.Fatalf("term %d is %s", k, text(p[k:k+1]))
		}
	}
}
