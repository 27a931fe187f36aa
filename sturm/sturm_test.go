package sturm_test

import (
	"slices"
	"strings"
	"testing"

	"quadrature/api"
	"quadrature/integer"
	"quadrature/poly"
	"quadrature/rational"
	"quadrature/sturm"
)

// number returns the rational number with the notation s.
func number(t *testing.T, s string) api.Rat {
	t.Helper()
	c, err := rational.Read(s)
	if err != api.OK {
		t.Fatalf("rational.Read(%q): %v", s, err)
	}
	return c
}

// of returns the polynomial whose coefficients s lists, that of degree 0 first.
func of(t *testing.T, s string) api.Poly {
	t.Helper()
	var p api.Poly
	for _, word := range strings.Fields(s) {
		p = append(p, number(t, word))
	}
	if !poly.Valid(p) {
		t.Fatalf("%q ends with a zero", s)
	}
	return p
}

// product returns the product of the polynomials that the parts of s between the semicolons list.
func product(t *testing.T, s string) api.Poly {
	t.Helper()
	p := of(t, "1")
	for part := range strings.SplitSeq(s, ";") {
		p = poly.Mul(p, of(t, part))
	}
	return p
}

// text lists rational numbers.
func text(l []api.Rat) string {
	var words []string
	for _, c := range l {
		words = append(words, rational.Text(c))
	}
	return strings.Join(words, " ")
}

// textOfIntegers lists integers.
func textOfIntegers(l []api.Int) string {
	var words []string
	for _, n := range l {
		words = append(words, integer.Text(n))
	}
	return strings.Join(words, " ")
}

// textOfChain lists the coefficients of polynomials, between semicolons.
func textOfChain(l []api.Poly) string {
	var parts []string
	for _, p := range l {
		parts = append(parts, text(p))
	}
	return strings.Join(parts, "; ")
}

// mustChain checks a Sturm chain, and that its elements are valid.
func mustChain(t *testing.T, p api.Poly, want string) {
	t.Helper()
	got := sturm.Chain(p)
	if textOfChain(got) != want || slices.ContainsFunc(got, func(q api.Poly) bool { return !poly.Valid(q) || len(q) == 0 }) {
		t.Fatalf("Chain(%s) = %s, want %s", text(p), textOfChain(got), want)
	}
}

// mustCount checks the number of roots behind lo up to hi.
func mustCount(t *testing.T, p api.Poly, lo, hi api.Rat, want int) {
	t.Helper()
	if got := sturm.Count(p, lo, hi); got != want {
		t.Fatalf("Count(%s, %s, %s) = %d, want %d", text(p), rational.Text(lo), rational.Text(hi), got, want)
	}
}

// mustBound checks the bound of p.
func mustBound(t *testing.T, p api.Poly, want string) {
	t.Helper()
	if got := sturm.Bound(p); !integer.Valid(got) || integer.Text(got) != want {
		t.Fatalf("Bound(%s) = %v, want %s", text(p), got, want)
	}
}

// mustHaveRoots checks the rational roots of p, and that the integers among them are its integer roots.
func mustHaveRoots(t *testing.T, p api.Poly, want string) {
	t.Helper()
	rationals, integers := sturm.Rationals(p), sturm.Integers(p)
	if text(rationals) != want || slices.ContainsFunc(rationals, func(r api.Rat) bool { return !rational.Valid(r) }) {
		t.Fatalf("Rationals(%s) = %s, want %s", text(p), text(rationals), want)
	}
	whole := slices.DeleteFunc(strings.Fields(want), func(word string) bool { return strings.Contains(word, "/") })
	if textOfIntegers(integers) != strings.Join(whole, " ") || slices.ContainsFunc(integers, func(n api.Int) bool { return !integer.Valid(n) }) {
		t.Fatalf("Integers(%s) = %s, want %s", text(p), textOfIntegers(integers), strings.Join(whole, " "))
	}
}

func TestExamplesOfTheChapter(t *testing.T) {
	mustChain(t, of(t, "-2 0 1"), "-2 0 1; 0 2; 2")
	mustCount(t, of(t, "0 -1 0 1"), number(t, "-1"), number(t, "1"), 2)
	mustCount(t, of(t, "0 -1 0 1"), number(t, "-2"), number(t, "1"), 3)
	mustCount(t, of(t, "1 -2 1"), number(t, "0"), number(t, "1"), 1)
	mustCount(t, of(t, "1 -2 1"), number(t, "1"), number(t, "2"), 0)
	mustBound(t, of(t, "-7 2"), "5")
	mustBound(t, of(t, "1 0 1"), "2")
	mustBound(t, of(t, "5"), "0")
	mustHaveRoots(t, product(t, "-1 2; 3 1; -2 0 1"), "-3 1/2")
}

func TestChain(t *testing.T) {
	for _, x := range []struct{ p, want string }{
		{"", ""}, {"5", "5"}, {"-1", "-1"}, {"-1/2", "-1/2"},
		{"0 1", "0 1; 1"}, {"3 2", "3 2; 2"}, {"3 -2", "3 -2; -2"}, {"-7/3 -1/2", "-7/3 -1/2; -1/2"},
		{"1 0 1", "1 0 1; 0 2; -1"}, {"2 0 -1", "2 0 -1; 0 -2; -2"}, {"-1/3 0 1/2", "-1/3 0 1/2; 0 1; 1/3"}, {"2 3 1", "2 3 1; 3 2; 1/4"},
		{"0 -1 0 1", "0 -1 0 1; -1 0 3; 0 2/3; 1"}, {"0 1 0 -1", "0 1 0 -1; 1 0 -3; 0 -2/3; -1"}, {"0 -4/9 0 1", "0 -4/9 0 1; -4/9 0 3; 0 8/27; 4/9"},
		// Multiple roots: the last element is a multiple of the greatest common divisor of the first two.
		{"1 -2 1", "1 -2 1; -2 2"}, {"-1/2 1 -1/2", "-1/2 1 -1/2; 1 -1"}, {"0 0 1", "0 0 1; 0 2"}, {"0 0 0 1", "0 0 0 1; 0 0 3"}, {"0 0 0 0 -2/7", "0 0 0 0 -2/7; 0 0 0 -8/7"},
		{"0 0 2 2", "0 0 2 2; 0 4 6; 0 4/9"}, {"-1 -1 1 1", "-1 -1 1 1; -1 2 3; 8/9 8/9"},
		// Gaps: a division may leave a degree that is lower by more than 1.
		{"1 0 0 0 1", "1 0 0 0 1; 0 0 0 4; -1"}, {"-5 0 0 0 0 0 3", "-5 0 0 0 0 0 3; 0 0 0 0 0 18; 5"}, {"1 1 0 0 0 1", "1 1 0 0 0 1; 1 0 0 0 5; -1 -4/5; -3381/256"},
	} {
		mustChain(t, of(t, x.p), x.want)
	}
}

func TestBound(t *testing.T) {
	for _, x := range []struct{ p, want string }{
		{"", "0"}, {"5", "0"}, {"-1/3", "0"},
		{"0 1", "1"}, {"0 -7", "1"}, {"1 1", "2"}, {"-1 1", "2"}, {"1 -1", "2"}, {"7 2", "5"}, {"8 2", "5"}, {"9 2", "6"}, {"-7 -2", "5"}, {"1/2 3", "2"}, {"3 1/2", "7"}, {"-2/3 4/9", "3"}, {"-2/3 -5/7", "2"},
		{"0 0 1", "1"}, {"0 0 0 -5/2", "1"}, {"1 0 0 4", "2"}, {"4 0 0 4", "2"}, {"5 0 0 4", "3"}, {"0 1 0 4", "2"}, {"0 -9 0 4", "4"}, {"3 -9 8 4", "4"}, {"3 -9 8 -4", "4"}, {"0 -12 0 -4", "4"}, {"-13 0 0 -4", "5"},
		{"1/2 1/3 1/5", "4"}, {"1/2 1/3 -1/4", "3"}, {"6/7 -1/1000000 1/7", "7"}, {"0 0 99 100", "2"}, {"0 0 100 100", "2"}, {"0 0 101 100", "3"},
		{"100000000000000000000 1", "100000000000000000001"}, {"-100000000000000000000 3", "33333333333333333335"}, {"1 100000000000000000000", "2"},
	} {
		mustBound(t, of(t, x.p), x.want)
	}
}
