package mgcd_test

import (
	"math/big"
	"slices"
	"strconv"
	"strings"
	"testing"

	"quadrature/api"
	"quadrature/integer"
	"quadrature/mgcd"
	"quadrature/rational"
)

// names are those of the variables 0 to 3 in the notations of the tests.
const names = "xyzw"

// term returns the term with the notation s, as in "-2/3 x^2 y".
func term(t *testing.T, s string) api.Mono {
	t.Helper()
	c := big.NewRat(1, 1)
	if rest, ok := strings.CutPrefix(s, "-"); ok {
		c, s = big.NewRat(-1, 1), rest
	}
	var x api.Mono
	for word := range strings.FieldsSeq(s) {
		v := strings.IndexByte(names, word[0])
		if v < 0 {
			n, ok := new(big.Rat).SetString(word)
			if !ok {
				t.Fatalf("%q is not a number", word)
			}
			c.Mul(c, n)
			continue
		}
		n := 1
		if _, after, ok := strings.Cut(word, "^"); ok {
			n, _ = strconv.Atoi(after)
		}
		x.E[v] += n
	}
	x.C = fromBig(c)
	return x
}

// terms returns the terms that s lists, as they stand.
func terms(t *testing.T, s string) []api.Mono {
	t.Helper()
	if s == "0" {
		return nil
	}
	var out []api.Mono
	for _, word := range strings.Split(strings.ReplaceAll(s, " - ", " + -"), " + ") {
		out = append(out, term(t, word))
	}
	return out
}

// of returns the polynomial with the notation s: a sum of terms in any order, or a product of powers of such sums, as in "(x + 1)(y - x)^2".
func of(t *testing.T, s string) api.MPoly {
	t.Helper()
	if !strings.HasPrefix(s, "(") {
		return toPlain(terms(t, s)).polynomial()
	}
	p := plain{{}: big.NewRat(1, 1)}
	for word := range strings.SplitSeq(s[1:], "(") {
		sum, power, _ := strings.Cut(strings.TrimSpace(word), ")")
		n := 1
		if after, ok := strings.CutPrefix(power, "^"); ok {
			n, _ = strconv.Atoi(after)
		}
		for q := toPlain(terms(t, sum)); n > 0; n-- {
			p = p.times(q)
		}
	}
	return p.polynomial()
}

// isValid reports whether p is valid, by the definition of layer 7.
func isValid(p api.MPoly) bool {
	for i, x := range p {
		if slices.Min(x.E[:]) < 0 || !rational.Valid(x.C) || toBig(x.C).Sign() == 0 || i > 0 && !greater(p[i-1].E, x.E) {
			return false
		}
	}
	return true
}

// greater reports whether e is greater than f, by the definition of layer 7.
func greater(e, f [4]int) bool {
	for _, v := range []int{3, 2, 1, 0} {
		if e[v] != f[v] {
			return e[v] > f[v]
		}
	}
	return false
}

// text returns the notation of p.
func text(p api.MPoly) string {
	if len(p) == 0 {
		return "0"
	}
	out := ""
	for i, x := range p {
		var words []string
		for v, n := range x.E {
			if n == 1 {
				words = append(words, names[v:v+1])
			} else if n != 0 {
				words = append(words, names[v:v+1]+"^"+strconv.Itoa(n))
			}
		}
		c, negative := strings.CutPrefix(toBig(x.C).RatString(), "-")
		if c != "1" || len(words) == 0 {
			words = append([]string{c}, words...)
		}
		switch {
		case i == 0 && negative:
			out = "-"
		case i > 0 && negative:
			out += " - "
		case i > 0:
			out += " + "
		}
		out += strings.Join(words, " ")
	}
	return out
}

// texts returns the notations of polynomials.
func texts(l ...api.MPoly) string {
	var words []string
	for _, p := range l {
		words = append(words, text(p))
	}
	return strings.Join(words, "; ")
}

// list returns the notation of factors.
func list(l []api.MFactor) string {
	var words []string
	for _, f := range l {
		words = append(words, "("+text(f.P)+")^"+strconv.Itoa(f.N))
	}
	return strings.Join(words, " ")
}

// same reports whether a and b are equal.
func same(a, b api.MPoly) bool { return text(a) == text(b) }

// mustBe checks that a result is valid and equal to want.
func mustBe(t *testing.T, call string, p, want api.MPoly) {
	t.Helper()
	if !isValid(p) || !same(p, want) {
		t.Fatalf("%s = %s (valid: %v), want %s", call, text(p), isValid(p), text(want))
	}
}

// mustShare checks that the greatest common divisor of a and b, in either order, is want.
func mustShare(t *testing.T, a, b, want api.MPoly) {
	t.Helper()
	mustBe(t, "Gcd of "+texts(a, b), mgcd.Gcd(a, b), want)
	mustBe(t, "Gcd of "+texts(b, a), mgcd.Gcd(b, a), want)
}

// mustFactor checks that Squarefree returns the list with the notation want.
func mustFactor(t *testing.T, a api.MPoly, v int, want string) {
	t.Helper()
	l := mgcd.Squarefree(a, v)
	for _, f := range l {
		if !isValid(f.P) {
			t.Fatalf("Squarefree of %s by %d: %s is not valid", text(a), v, text(f.P))
		}
	}
	if list(l) != want {
		t.Fatalf("Squarefree of %s by %d is %s, want %s", text(a), v, list(l), want)
	}
}

// raw returns n/d as it stands, without taking out common factors.
func raw(n, d int64) api.Rat { return api.Rat{Num: integer.Of(n), Den: integer.Of(d)} }

func TestExamplesOfTheChapter(t *testing.T) {
	mustBe(t, "Normal(2 x + 4)", mgcd.Normal(of(t, "2 x + 4")), of(t, "x + 2"))
	mustBe(t, "Normal(0)", mgcd.Normal(nil), nil)
	for _, x := range [][3]string{{"x^2 - y^2", "x y + y^2", "y + x"}, {"0", "3 x", "x"}, {"x", "y", "1"}, {"4", "6", "1"}} {
		mustShare(t, of(t, x[0]), of(t, x[1]), of(t, x[2]))
	}
	a := of(t, "2 x y + 2 y")
	mustBe(t, "Content", mgcd.Content(a, 0), of(t, "y"))
	mustBe(t, "Primitive", mgcd.Primitive(a, 0), of(t, "2 x + 2"))
	mustFactor(t, of(t, "x^3 y + 2 x^2 y + x y"), 0, "(x)^1 (x + 1)^2")
	mustFactor(t, of(t, "y"), 0, "")
	for _, x := range [][3]string{{"x^2 - y", "x - 1", "-y + 1"}, {"2", "3", "1"}, {"2", "x^2", "4"}, {"0", "1", "0"}} {
		mustBe(t, "Resultant", mgcd.Resultant(of(t, x[0]), of(t, x[1]), 0), of(t, x[2]))
	}
}

func TestNormal(t *testing.T) {
	for s, want := range map[string]string{
		"0": "0", "1": "1", "-1": "1", "5": "1", "-2/3": "1", "18446744073709551616": "1",
		"x": "x", "y + x": "y + x", "w - 2/3": "w - 2/3", "-x": "x", "-y + x - 1": "y - x + 1", "2 x + 4": "x + 2", "4 y + 2 x + 1": "y + 1/2 x + 1/4", "1/2 y + x": "y + 2 x", "-2/3 x^2 + 4 x - 1/5": "x^2 - 6 x + 3/10",
		// The first coefficient is that of the highest variable.
		"2 y + x^9": "y + 1/2 x^9", "3 w + z^2 + y^3 + x^4": "w + 1/3 z^2 + 1/3 y^3 + 1/3 x^4", "x^2 y + 7 x y^2": "x y^2 + 1/7 x^2 y",
	} {
		mustBe(t, "Normal of "+s, mgcd.Normal(of(t, s)), of(t, want))
	}
}

func TestGcd(t *testing.T) {
	for _, x := range [][3]string{
		// With 0.
		{"0", "0", "0"}, {"0", "1", "1"}, {"0", "-7/2", "1"}, {"0", "x", "x"}, {"0", "-2 y + x", "y - 1/2 x"}, {"0", "4 w^2 z - 2/3", "w^2 z - 1/6"},
		// With constants.
		{"1", "1", "1"}, {"4", "6", "1"}, {"2/3", "-5", "1"}, {"3", "x", "1"}, {"3", "6 y + 3 x", "1"}, {"1/2", "(y + x)^3", "1"},
		// With terms.
		{"x", "x", "x"}, {"x", "y", "1"}, {"x^2", "x^3", "x^2"}, {"6 x^2 y", "-4 x y^3", "x y"}, {"x y z w", "x^2 y^3 z^4 w^5", "x y z w"}, {"x", "x + 1", "1"}, {"x^2 y", "x y + x^3", "x"}, {"y^2", "x y^3 + y^2", "y^2"}, {"x z^2", "x^3 w^2 - x^2 z", "x"},
		// Equal polynomials, and multiples of one another.
		{"x + 1", "x + 1", "x + 1"}, {"y + x", "-3 y - 3 x", "y + x"}, {"1/2 x - 1/3", "3 x - 2", "x - 2/3"}, {"x + 1", "(x + 1)(x - 1)", "x + 1"}, {"y + x", "(y + x)(y - x)", "y + x"}, {"2 y + x", "(2 y + x)(w + z)(x)", "y + 1/2 x"}, {"(z + y + x)^2", "(z + y + x)^3", "(z + y + x)^2"}, {"(x y + 1)(z)", "(x y + 1)(z)^2", "(x y + 1)(z)"},
		// Coprime polynomials.
		{"x + 1", "x - 1", "1"}, {"x^2 + 1", "x^2 - 2", "1"}, {"y + x", "y - x", "1"}, {"x y + 1", "x y - 1", "1"}, {"y^2 + x", "y + x^2", "1"}, {"z + y + x", "z + y - x", "1"}, {"w + z + y + x", "w z + y x", "1"}, {"x + 1", "x + 1000000007", "1"}, {"x^3 - 2", "x^2 - 2", "1"},
		// No variable in common, or only some.
		{"x + 1", "y + 1", "1"}, {"x^2 + x", "y^2 + y", "1"}, {"y + x", "w + z", "1"}, {"x^2 - 1", "(x + 1)(y)", "x + 1"}, {"(x + 1)(y + 2)", "(x + 1)(z + 3)", "x + 1"}, {"(x + 1)(y + x)", "x^2 - 1", "x + 1"}, {"(x + 2)(w y + z)", "(x + 2)^2", "x + 2"}, {"(y - 1)(x)", "(y^2 - 1)(z)", "y - 1"},
		// One variable.
		{"(x + 1)(x + 2)", "(x + 1)(x + 3)", "x + 1"}, {"(x - 1)^2 (x + 1)", "(x - 1)(x + 1)^2", "(x - 1)(x + 1)"}, {"x^6 - 1", "x^4 - 1", "x^2 - 1"}, {"x^12 - 1", "x^18 - 1", "x^6 - 1"}, {"(2 x + 1)(x - 3)", "(2 x + 1)(3 x - 1)", "x + 1/2"}, {"(x^2 + x + 1)(1/2 x - 5)", "(x^2 + x + 1)(1/3 x + 1)", "x^2 + x + 1"}, {"(x^2)(x + 1)", "(x)(x + 1)^2", "(x)(x + 1)"}, {"x^1000 - 1", "x^600 - 1", "x^200 - 1"},
		{"(18446744073709551617 x - 1)(x + 2)", "(18446744073709551617 x - 1)(x + 3)", "x - 1/18446744073709551617"}, {"(x + 340282366920938463463374607431768211457)(x + 2)", "(x + 340282366920938463463374607431768211457)(x + 3)", "x + 340282366920938463463374607431768211457"},
		// Two variables.
		{"(y + x)(y - x)", "(y + x)(y)", "y + x"}, {"(y + x)(x + 1)", "(y + x)(x + 2)", "y + x"}, {"(y + x)^2 (y + 1)", "(y + x)(y + 1)^2", "(y + x)(y + 1)"}, {"(x y + 1)(x + y)", "(x y + 1)(x - y)", "x y + 1"}, {"(x y + 2)(x + 1)^2", "(x y + 2)(x + 1)(y + 1)", "(x y + 2)(x + 1)"}, {"(y^2 - x^3)(x + y + 1)", "(y^2 - x^3)(x y - 5)", "y^2 - x^3"}, {"(2 y + 3 x)(5 y - 7)", "(2 y + 3 x)(11 x + 13)", "y + 3/2 x"}, {"(1/2 y + 1/3 x)(x)", "(1/4 y + 1/6 x)(y)", "y + 2/3 x"},
		{"(x^2 y^2 - 1)(x + 1)", "(x^2 y^2 - 1)(x y + 1)", "(x y + 1)(x y - 1)"}, {"y^6 - x^6", "y^4 - x^4", "y^2 - x^2"}, {"(x + 1)(y + 1)", "(x + 1)(y + 2)", "x + 1"}, {"(x + 1)(y + 1)(y + x)", "(x + 1)(y + 2)(y + x)", "(x + 1)(y + x)"},
		// Leading coefficients with factors in common that are not those of the divisor.
		{"(x y + y + 1)(x^2 y + x y - 1)", "(x y + y + 1)(x^2 y + x y + 2)", "x y + y + 1"}, {"(x y^2 - 1)(x^2 y + x)", "(x y^2 - 1)(x^3 y + 1)", "x y^2 - 1"},
		// Three and four variables.
		{"(z + y + x)(z - y)", "(z + y + x)(z - x)", "z + y + x"}, {"(x y z + 1)(x + y)", "(x y z + 1)(y + z)", "x y z + 1"}, {"(z + y)(z + x)(y + x)", "(z + y)(z + x)(z + 1)", "(z + y)(z + x)"}, {"(x + 1)(y + 1)(z + 1)", "(x + 1)(y + 1)(z - 1)", "(x + 1)(y + 1)"}, {"(x z + y)^2 (x)", "(x z + y)(x + y + z)", "x z + y"}, {"(3 z^2 + 2 x y)(z)", "(3 z^2 + 2 x y)(x)", "z^2 + 2/3 x y"},
		{"(w + z + y + x)(w - z)", "(w + z + y + x)(y - x)", "w + z + y + x"}, {"(x y z w - 1)(w + 1)", "(x y z w - 1)(x + 1)", "x y z w - 1"}, {"(w + x)(z + y)(w + 1)", "(w + x)(z + y)(z + 1)", "(w + x)(z + y)"}, {"(w^2 + z^2 + y^2 + x^2)(w + z)^2", "(w^2 + z^2 + y^2 + x^2)(w + z)(y + x)", "(w^2 + z^2 + y^2 + x^2)(w + z)"}, {"(w - 1)(x - 1)(z)", "(w - 1)(x - 2)(z)^3", "(w - 1)(z)"},
	} {
		mustShare(t, of(t, x[0]), of(t, x[1]), of(t, x[2]))
	}
}

func TestContentAndPrimitive(t *testing.T) {
	for _, x := range []struct {
		a          string
		v          int
		c, content string
	}{
		// 0, and constants.
		{"0", 0, "0", "0"}, {"0", 3, "0", "0"}, {"1", 0, "1", "1"}, {"-2/3", 1, "-2/3", "1"}, {"6", 2, "6", "1"},
		// Without the variable, the polynomial is its only coefficient.
		{"x", 1, "1", "x"}, {"-2 x + 4", 1, "-2", "x - 2"}, {"(w + 3 z)(y - 1)", 0, "1", "(w + 3 z)(y - 1)"}, {"3 y + x", 2, "3", "y + 1/3 x"}, {"(x + 1)(x + 2)", 3, "1", "(x + 1)(x + 2)"},
		// Primitive polynomials.
		{"x", 0, "x", "1"}, {"3 x + 6", 0, "3 x + 6", "1"}, {"-1/2 x^2 + 1/3", 0, "-1/2 x^2 + 1/3", "1"}, {"x y + 1", 0, "x y + 1", "1"}, {"2 x y + 4 x + 3", 1, "2 x y + 4 x + 3", "1"}, {"x^2 + x y + y^2", 1, "x^2 + x y + y^2", "1"}, {"w x + z y", 3, "w x + z y", "1"},
		// Contents.
		{"2 x y + 2 y", 0, "2 x + 2", "y"}, {"2 x y + 2 y", 1, "2 y", "x + 1"}, {"x^2 y^3", 0, "x^2", "y^3"}, {"-4 x^2 y^3", 1, "-4 y^3", "x^2"}, {"(y - 1)(x + 1)(x + 2)", 0, "(x + 1)(x + 2)", "y - 1"}, {"(2 y - 1)(x + 1)", 0, "(2)(x + 1)", "y - 1/2"}, {"(3 y + 6)(x + y)", 0, "(3)(x + y)", "y + 2"},
		// A content in several variables, and contents of contents.
		{"(z + y)(x + 1)", 0, "x + 1", "z + y"}, {"(z + y)(w)(x y + 1)", 0, "x y + 1", "(z + y)(w)"}, {"(w z + y)(x + y + z + w)", 0, "x + y + z + w", "w z + y"}, {"(w z + y)(x + y + z + w)", 1, "(w z + y)(x + y + z + w)", "1"},
		{"(x + 1)(y + 1)(z + 1)(w + 1)", 0, "x + 1", "(y + 1)(z + 1)(w + 1)"}, {"(x + 1)(y + 1)(z + 1)(w + 1)", 3, "w + 1", "(x + 1)(y + 1)(z + 1)"}, {"(x + 1)(x + 2)(y x + 1)(z + x)", 2, "z + x", "(x + 1)(x + 2)(y x + 1)"}, {"(x + 1)(x y + y)(z + x + y)", 2, "z + x + y", "(x + 1)^2 (y)"}, {"(x - 1)^2 (y - x)^3 (z - y)^4", 2, "(z - y)^4", "(x - 1)^2 (y - x)^3"},
		// Some coefficients are 0.
		{"(y + 1)(x^5 + 1)", 0, "x^5 + 1", "y + 1"}, {"(y)(x^4 - 7)", 0, "x^4 - 7", "y"}, {"(w)(z^9)(x)", 2, "z^9", "(w)(x)"}, {"x^1000000000 y + y", 0, "x^1000000000 + 1", "y"},
	} {
		a := of(t, x.a)
		call := " of " + x.a + " by " + strconv.Itoa(x.v)
		mustBe(t, "Content"+call, mgcd.Content(a, x.v), of(t, x.content))
		mustBe(t, "Primitive"+call, mgcd.Primitive(a, x.v), of(t, x.c))
	}
}

func TestSquarefree(t *testing.T) {
	for _, x := range []struct {
		a    string
		v    int
		want string
	}{
		// Nothing: 0, constants, and polynomials without the variable.
		{"0", 0, ""}, {"0", 3, ""}, {"1", 0, ""}, {"-2/3", 2, ""}, {"y", 0, ""}, {"(y + 1)^2 (z)^3", 0, ""}, {"x^2 + 2 x + 1", 1, ""}, {"w + z", 1, ""},
		// Squarefree polynomials.
		{"x", 0, "(x)^1"}, {"-3 x", 0, "(x)^1"}, {"2 x + 1", 0, "(x + 1/2)^1"}, {"x^2 - 1", 0, "(x^2 - 1)^1"}, {"x^2 + 1", 0, "(x^2 + 1)^1"}, {"-1/2 x^3 + 1", 0, "(x^3 - 2)^1"}, {"(x)(x + 1)(x + 2)", 0, "(x^3 + 3 x^2 + 2 x)^1"}, {"y^2 - x^2", 0, "(y^2 - x^2)^1"}, {"y^2 - x^2", 1, "(y^2 - x^2)^1"}, {"x y + 1", 1, "(x y + 1)^1"}, {"w + z + y + x", 2, "(w + z + y + x)^1"},
		// Powers, with all exponents and with some that are missing.
		{"x^2", 0, "(x)^2"}, {"5 x^7", 0, "(x)^7"}, {"x^1000000000", 0, "(x)^1000000000"}, {"(x^1000000000)(x + 1)^2", 0, "(x + 1)^2 (x)^1000000000"}, {"(x + 1)^2", 0, "(x + 1)^2"}, {"(2 x + 1)^3", 0, "(x + 1/2)^3"}, {"(x + 1)^5", 0, "(x + 1)^5"}, {"(x)(x + 1)^2", 0, "(x)^1 (x + 1)^2"}, {"(x)^2 (x + 1)", 0, "(x + 1)^1 (x)^2"}, {"(x)^2 (x + 1)^2", 0, "(x^2 + x)^2"}, {"(x)(x + 1)", 0, "(x^2 + x)^1"}, {"(x)^3 (x + 1)(x + 2)^5", 0, "(x + 1)^1 (x)^3 (x + 2)^5"},
		{"(x + 1)(x + 2)^2 (x + 3)^3", 0, "(x + 1)^1 (x + 2)^2 (x + 3)^3"}, {"(x + 1)^2 (x + 2)^5", 0, "(x + 1)^2 (x + 2)^5"}, {"(x^2 + 1)^3 (x - 1)^3 (x + 5)^7", 0, "(x^3 - x^2 + x - 1)^3 (x + 5)^7"}, {"(3 x - 1)^4 (1/2 x^2 + 1)", 0, "(x^2 + 2)^1 (x - 1/3)^4"}, {"(x + 1)^40 (x - 1)^39", 0, "(x - 1)^39 (x + 1)^40"}, {"(x^100 - 1)^2", 0, "(x^100 - 1)^2"},
		{"(y + x)^2 (y - x)", 0, "(y - x)^1 (y + x)^2"}, {"(y + x)^2 (y - x)", 1, "(y - x)^1 (y + x)^2"}, {"(x y + 1)^3 (x + y)^2 (z)", 0, "(y + x)^2 (x y + 1)^3"}, {"(x y + 2)^2 (w)", 1, "(x y + 2)^2"}, {"(z^2 + x y)^2 (z + 1)(z)^4", 2, "(z + 1)^1 (z^2 + x y)^2 (z)^4"}, {"(w + z + y + x)^3 (w - 1)", 3, "(w - 1)^1 (w + z + y + x)^3"},
		// Contents, also with powers of other variables, do not matter.
		{"(x)(x + 1)^2 (y)", 0, "(x)^1 (x + 1)^2"}, {"(x)(x + 1)^2 (y)^3", 0, "(x)^1 (x + 1)^2"}, {"(y + 1)^2 (x + 1)", 0, "(x + 1)^1"}, {"(y + 1)^2 (x + 1)", 1, "(y + 1)^2"}, {"(y)^5 (x)^2", 0, "(x)^2"}, {"(y)^5 (x)^2", 1, "(y)^5"}, {"(w)^2 (z)^3 (y)^4 (x)^5 (x + w)", 0, "(w + x)^1 (x)^5"}, {"(w)^2 (z)^3 (y)^4 (x)^5 (x + w)", 3, "(w + x)^1 (w)^2"}, {"(2 y + 2)^2 (3 x + 3 y)^2 (x)", 0, "(x)^1 (y + x)^2"}, {"(z^2 - 2)(z)^2 (x y)", 0, "(x)^1"},
		// Squares of polynomials without the variable only.
		{"(y)^2 (x + y)", 0, "(y + x)^1"}, {"(y + z)^2 (x^2 + y)", 0, "(y + x^2)^1"},
	} {
		mustFactor(t, of(t, x.a), x.v, x.want)
	}
}

func TestResultant(t *testing.T) {
	for _, x := range []struct {
		a, b string
		v    int
		want string
	}{
		// 0.
		{"0", "0", 0, "0"}, {"0", "1", 0, "0"}, {"1", "0", 0, "0"}, {"x + 1", "0", 0, "0"}, {"0", "x^2 y", 0, "0"}, {"0", "y", 0, "0"},
		// Both without the variable.
		{"2", "3", 0, "1"}, {"y", "2", 0, "1"}, {"x + 1", "x^2", 1, "1"}, {"w", "z + y", 0, "1"}, {"-1", "-1", 3, "1"}, {"x", "x", 2, "1"},
		// One without the variable.
		{"2", "x^2", 0, "4"}, {"x^2", "2", 0, "4"}, {"-3", "x^3 + x", 0, "-27"}, {"x^3 + x", "-3", 0, "-27"}, {"y", "x + 1", 0, "y"}, {"y + 1", "x^2 + x + z", 0, "(y + 1)^2"}, {"2/3", "5 x + 1", 0, "2/3"}, {"x^300 + 1", "-1", 0, "1"}, {"2", "x^300 + x", 0, "2037035976334486086268445688409378161051468393665936250636140449354381299763336706183397376"}, {"x^1000000000 + 1", "1", 0, "1"},
		// Degrees of 1.
		{"x", "x", 0, "0"}, {"x", "x + 1", 0, "1"}, {"x + 1", "x", 0, "-1"}, {"2 x + 3", "5 x + 7", 0, "-1"}, {"5 x + 7", "2 x + 3", 0, "1"}, {"1/2 x + 1/3", "x - 1", 0, "-5/6"}, {"x + y", "x + z", 0, "z - y"}, {"w x + y", "z x + 1", 0, "w - y z"}, {"x - y", "x - z", 1, "x - z"}, {"x y + 1", "y + x", 1, "x^2 - 1"},
		// Different degrees, in either order.
		{"x^2 - y", "x - 1", 0, "-y + 1"}, {"x - 1", "x^2 - y", 0, "-y + 1"}, {"x^3 - 2", "x - y", 0, "-y^3 + 2"}, {"x - y", "x^3 - 2", 0, "y^3 - 2"}, {"x^3 - y", "x^2 - z", 0, "y^2 - z^3"}, {"x^2 - z", "x^3 - y", 0, "y^2 - z^3"}, {"x^2 + 1", "x^4 + 1", 0, "4"}, {"2 x^2 + 1", "x + 3", 0, "19"}, {"x + 3", "2 x^2 + 1", 0, "19"}, {"x^3", "2 x + 1", 0, "1"}, {"2 x + 1", "x^3", 0, "-1"}, {"3 x^2 - 1", "x^5 - x + 2", 0, "908"},
		// Equal degrees.
		{"x^2 + 1", "x^2 + 2", 0, "1"}, {"x^2 + x", "x^2 - 2", 0, "2"}, {"x^2 - y", "x^2 - z", 0, "z^2 - 2 y z + y^2"}, {"2 x^2 - 3 x + 1", "3 x^2 + x - 1", 0, "3"}, {"x^3 + x + 1", "x^3 - x + 1", 0, "8"},
		// Discriminants.
		{"x^2 + y x + z", "2 x + y", 0, "4 z - y^2"}, {"x^3 + y x + z", "3 x^2 + y", 0, "27 z^2 + 4 y^3"}, {"w x^2 + y x + z", "2 w x + y", 0, "4 w^2 z - w y^2"}, {"x^4 + y x + z", "4 x^3 + y", 0, "256 z^3 - 27 y^4"},
		// Common factors.
		{"x^2 - 1", "x + 1", 0, "0"}, {"(x - y)(x + 1)", "(x - y)(x + z)", 0, "0"}, {"(x y + 1)^2", "(x y + 1)(x^3)", 0, "0"}, {"x + 1", "(x + 1)(y)", 0, "0"}, {"(w + x)(z + 1)", "(w + x)(z - 1)", 3, "0"}, {"(w + x)(z + 1)", "(w + x)(z - 1)", 2, "-2 w^2 - 4 w x - 2 x^2"}, {"(y)(x + 1)", "(y)(x + 2)", 0, "y^2"}, {"x^2", "x^3", 0, "0"}, {"x^2 - 2", "-3 x^2 + 6", 0, "0"},
		// The degree of a remainder falls by more than 1: two rows are exchanged in the matrix.
		{"x^3 + 1", "x^2 + 1", 0, "2"}, {"x^4 + x + 1", "x^3 + 1", 0, "1"}, {"x^4 + 1", "x^3 + x^2", 0, "2"}, {"x^5 + y", "x^4 + z", 0, "z^5 + y^4"}, {"x^6 + x + y", "x^5 + z", 0, "z^6 - 5 z^5 + 10 z^4 - 10 z^3 + 5 z^2 - z + y^5"}, {"x^4 + y x^2 + z", "x^4 + y x^2 + w", 0, "w^4 - 4 w^3 z + 6 w^2 z^2 - 4 w z^3 + z^4"}, {"x^3 + y", "x^3 + z", 0, "z^3 - 3 y z^2 + 3 y^2 z - y^3"}, {"x^4 + x^3 + y", "x^4 + x^3 + x + z", 0, "z^4 - 4 y z^3 - z^3 + 6 y^2 z^2 + 3 y z^2 - 4 y^3 z - 3 y^2 z + y^4 + y^3 + y"},
		{"2 x^4 + 3 x + 1", "5 x^3 + 2", 0, "-2037"}, {"x^100 - y", "x^99 - z", 0, "z^100 - y^99"},
		// Large exponents.
		{"x^2 - y^1000000000 - y", "x - 1", 0, "-y^1000000000 - y + 1"}, {"x - 1", "x^2 - y^1000000000 - y", 0, "-y^1000000000 - y + 1"}, {"x + y^9223372036854775807", "x + 1", 0, "-y^9223372036854775807 + 1"}, {"x + 1", "x + y^9223372036854775807", 0, "y^9223372036854775807 - 1"}, {"y^1000000000 x + 1", "x + z^1000000000", 0, "y^1000000000 z^1000000000 - 1"}, {"x + y^1000000000", "x^3", 0, "-y^3000000000"}, {"x^3", "x + y^1000000000", 0, "y^3000000000"}, {"x^20000 - 1", "x - y^9000", 0, "y^180000000 - 1"}, {"(x - y^1000000000)(x + 1)", "(x - y^1000000000)(x + 2)", 0, "0"},
		// Fractions.
		{"1/2 x^2 + 1/3 x + 1/5", "2/3 x - 1/7", 0, "577/4410"}, {"1/2 x^2 - y", "1/3 x^2 - z", 0, "1/4 z^2 - 1/3 y z + 1/9 y^2"},
	} {
		a, b, want := of(t, x.a), of(t, x.b), of(t, x.want)
		call := "the resultant of " + texts(a, b) + " by " + strconv.Itoa(x.v)
		if p, q := toPlain(a), toPlain(b); len(p) > 0 && len(q) > 0 && p.degree(x.v)+q.degree(x.v) < 9 {
			mustBe(t, call+" in the oracle", p.resultant(q, x.v).polynomial(), want)
		}
		mustBe(t, call, mgcd.Resultant(a, b, x.v), want)
	}
}
