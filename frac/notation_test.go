package frac_test

import (
	"slices"
	"strconv"
	"strings"
	"testing"

	"quadrature/api"
	"quadrature/frac"
	"quadrature/mpoly"
	"quadrature/rational"
)

// names are those of the variables 0 to 3 in the notations of the tests.
const names = "xyzw"

// reader reads a polynomial.
type reader struct {
	t    *testing.T
	rest string
}

// poly returns the polynomial with the notation s: sums of products of numbers, variables, and sums in parentheses, which may have exponents, as in "2/3 x^2 (y - 1)^3 + z".
func poly(t *testing.T, s string) api.MPoly {
	t.Helper()
	r := &reader{t, strings.ReplaceAll(s, " ", "")}
	p := r.sum()
	if r.rest != "" {
		t.Fatalf("%q has no meaning in %q", r.rest, s)
	}
	return p
}

// next reads the prefix if it comes next.
func (r *reader) next(prefix string) bool {
	rest, ok := strings.CutPrefix(r.rest, prefix)
	r.rest = rest
	return ok
}

// while reads the characters that are among the given ones.
func (r *reader) while(among string) string {
	rest := strings.TrimLeft(r.rest, among)
	word := r.rest[:len(r.rest)-len(rest)]
	r.rest = rest
	return word
}

// sum reads a sum.
func (r *reader) sum() api.MPoly {
	var out api.MPoly
	for minus := r.next("-"); ; minus = r.next("-") {
		p := r.product()
		if minus {
			p = mpoly.Sub(nil, p)
		}
		out = mpoly.Add(out, p)
		if r.rest == "" || r.rest[0] == ')' {
			return out
		}
		r.next("+")
	}
}

// product reads a product.
func (r *reader) product() api.MPoly {
	out := mpoly.Const(rational.Whole(1))
	for r.rest != "" && !strings.Contains("+-)", r.rest[:1]) {
		out = mpoly.Mul(out, r.factor())
	}
	return out
}

// factor reads a number, a variable or a sum in parentheses, with its exponent.
func (r *reader) factor() api.MPoly {
	p := r.atom()
	if r.next("^") {
		n, _ := strconv.Atoi(r.while("0123456789"))
		return mpoly.Pow(p, n)
	}
	return p
}

// atom reads a factor without its exponent.
func (r *reader) atom() api.MPoly {
	if word := r.while("0123456789/"); word != "" {
		return mpoly.Const(number(r.t, word))
	}
	first := r.rest[:1]
	r.rest = r.rest[1:]
	if first == "(" {
		p := r.sum()
		if !r.next(")") {
			r.t.Fatal("a parenthesis is missing")
		}
		return p
	}
	return mpoly.Var(strings.Index(names, first))
}

// number returns the number with the text s.
func number(t *testing.T, s string) api.Rat {
	t.Helper()
	c, err := rational.Read(s)
	if err != api.OK {
		t.Fatalf("%q is not a number", s)
	}
	return c
}

// pair returns the numerator and the denominator that s has before and after " // ". The denominator 1 may be left out.
func pair(t *testing.T, s string) (api.MPoly, api.MPoly) {
	t.Helper()
	n, d, ok := strings.Cut(s, " // ")
	if !ok {
		d = "1"
	}
	return poly(t, n), poly(t, d)
}

// plain returns the fraction with the notation s as it stands.
func plain(t *testing.T, s string) api.Frac {
	t.Helper()
	n, d := pair(t, s)
	return api.Frac{N: n, D: d}
}

// of returns the fraction with the notation s, in lowest terms.
func of(t *testing.T, s string) api.Frac {
	t.Helper()
	f, err := frac.Of(pair(t, s))
	if err != api.OK {
		t.Fatalf("%s: %v", s, err)
	}
	return f
}

// polyText returns a notation of p.
func polyText(p api.MPoly) string {
	var words []string
	for _, x := range p {
		word := rational.Text(x.C)
		for v, n := range x.E {
			if n != 0 {
				word += " " + names[v:v+1] + "^" + strconv.Itoa(n)
			}
		}
		words = append(words, word)
	}
	return "(" + strings.Join(words, " + ") + ")"
}

// text returns a notation of fractions.
func text(l ...api.Frac) string {
	var words []string
	for _, f := range l {
		words = append(words, polyText(f.N)+" // "+polyText(f.D))
	}
	return strings.Join(words, ", ")
}

// samePoly reports whether a and b have the same terms, in the same representation.
func samePoly(a, b api.MPoly) bool {
	sameInt := func(x, y api.Int) bool { return x.Neg == y.Neg && slices.Equal(x.Mag, y.Mag) }
	return slices.EqualFunc(a, b, func(x, y api.Mono) bool {
		return x.E == y.E && sameInt(x.C.Num, y.C.Num) && sameInt(x.C.Den, y.C.Den)
	})
}

// same reports whether a and b have the same representation.
func same(a, b api.Frac) bool { return samePoly(a.N, b.N) && samePoly(a.D, b.D) }

// isZeroValue reports whether f is the zero value.
func isZeroValue(f api.Frac) bool { return f.N == nil && f.D == nil }

// mustBe checks that a result is the fraction want, which must be valid.
func mustBe(t *testing.T, call string, f, want api.Frac) {
	t.Helper()
	if !frac.Valid(want) {
		t.Fatalf("%s: %s is not valid", call, text(want))
	}
	if !same(f, want) {
		t.Fatalf("%s = %s, want %s", call, text(f), text(want))
	}
}

// mustReturn checks that a call that can fail has not, and that its result is the fraction want.
func mustReturn(t *testing.T, call string, f api.Frac, err api.Errno, want api.Frac) {
	t.Helper()
	if err != api.OK {
		t.Fatalf("%s: %v, want %s", call, err, text(want))
	}
	mustBe(t, call, f, want)
}

// mustFail checks that a call has failed with the error want, and the zero value.
func mustFail(t *testing.T, call string, f api.Frac, err, want api.Errno) {
	t.Helper()
	if err != want || !isZeroValue(f) {
		t.Fatalf("%s = %s with %v, want the zero value with %v", call, text(f), err, want)
	}
}
