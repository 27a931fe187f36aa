package poly_test

import (
	"math/rand"
	"strconv"
	"strings"
	"testing"

	"quadrature/api"
	"quadrature/poly"
	"quadrature/rational"
)

// decomposition writes factors as "exponent: coefficients; ...".
func decomposition(factors []api.Factor) string {
	var parts []string
	for _, f := range factors {
		parts = append(parts, strconv.Itoa(f.N)+": "+text(f.P))
	}
	return strings.Join(parts, "; ")
}

// mustDecompose checks the squarefree decomposition of the polynomial with the coefficients a.
func mustDecompose(t *testing.T, a, want string) {
	t.Helper()
	factors := poly.Squarefree(of(t, a))
	if got := decomposition(factors); got != want {
		t.Errorf("Squarefree(%s) = %s, want %s", a, got, want)
	}
	for _, f := range factors {
		if !isValid(f.P) {
			t.Errorf("Squarefree(%s) has the factor %v", a, f.P)
		}
	}
}

func TestSquarefree(t *testing.T) {
	for a, want := range map[string]string{
		"": "", "1": "", "-5/7": "",
		"0 1": "1: 0 1", "3 2": "1: 3/2 1", "-2 0 1": "1: -2 0 1", "1 0 -3": "1: -1/3 0 1", "0 -1/2 0 1/2": "1: 0 -1 0 1",
		"0 0 1": "2: 0 1", "1 2 1": "2: 1 1", "0 0 0 0 0 7": "5: 0 1", "-1/8 3/4 -3/2 1": "3: -1/2 1", "4 0 -4 0 1": "2: -2 0 1",
		"0 0 2 2": "1: 1 1; 2: 0 1",
		// (x - 1) (x + 1)^3; x (x - 2)^4; (x^2 + 1) (x - 1)^2 x^5 times -3.
		"-1 -2 0 2 1": "1: -1 1; 3: 1 1", "0 16 -32 24 -8 1": "1: 0 1; 4: -2 1", "0 0 0 0 0 -3 6 -6 6 -3": "1: 1 0 1; 2: -1 1; 5: 0 1",
	} {
		mustDecompose(t, a, want)
	}
}

func TestSquarefreeOfHighPowers(t *testing.T) {
	if got := decomposition(poly.Squarefree(power(t, 300))); got != "300: 0 1" {
		t.Errorf("Squarefree(x^300) = %s", got)
	}
	a := of(t, "1")
	for range 40 {
		a = poly.Mul(a, of(t, "-1/2 1"))
	}
	for range 17 {
		a = poly.Mul(a, of(t, "3 0 2"))
	}
	if got := decomposition(poly.Squarefree(a)); got != "17: 3/2 0 1; 40: -1/2 1" {
		t.Errorf("Squarefree((x - 1/2)^40 (2 x^2 + 3)^17) = %s", got)
	}
}

// coprimeFactors returns monic squarefree polynomials without common roots: disjoint products from a short list of irreducible ones, with increasing exponents.
func coprimeFactors(t *testing.T, r *rand.Rand) []api.Factor {
	t.Helper()
	var irreducible []api.Poly
	for _, s := range []string{"0 1", "1 1", "-1 1", "1/2 1", "-7/3 1", "1 0 1", "-2 0 1", "1 1 1", "2/3 0 0 1", "-2 0 0 0 1"} {
		irreducible = append(irreducible, of(t, s))
	}
	r.Shuffle(len(irreducible), func(i, k int) { irreducible[i], irreducible[k] = irreducible[k], irreducible[i] })
	var out []api.Factor
	exponent := 0
	for range 1 + r.Intn(3) {
		exponent += 1 + r.Intn(3)
		p := of(t, "1")
		for range 1 + r.Intn(3) {
			p, irreducible = poly.Mul(p, irreducible[0]), irreducible[1:]
		}
		out = append(out, api.Factor{P: p, N: exponent})
	}
	return out
}

// productOf returns the product of the powers.
func productOf(t *testing.T, factors []api.Factor) api.Poly {
	t.Helper()
	out := of(t, "1")
	for _, f := range factors {
		for range f.N {
			out = poly.Mul(out, f.P)
		}
	}
	return out
}

func TestProductsOfPowersAreDecomposed(t *testing.T) {
	r := rand.New(rand.NewSource(31))
	for range 150 {
		factors := coprimeFactors(t, r)
		a := poly.Scale(productOf(t, factors), nonzero(r))
		if got, want := decomposition(poly.Squarefree(a)), decomposition(factors); got != want {
			t.Fatalf("Squarefree(%s) = %s, want %s", text(a), got, want)
		}
	}
}

func TestDecompositionsMultiplyBack(t *testing.T) {
	r := rand.New(rand.NewSource(32))
	for range 400 {
		a := sample(r, 7)
		if b := sample(r, 3); r.Intn(2) == 0 {
			a = poly.Mul(a, poly.Mul(b, b))
		}
		factors := poly.Squarefree(a)
		if len(a) < 2 {
			if len(factors) != 0 {
				t.Fatalf("Squarefree(%s) = %s", text(a), decomposition(factors))
			}
			continue
		}
		if !same(productOf(t, factors), poly.Monic(a)) {
			t.Fatalf("the factors of %s are %s", text(a), decomposition(factors))
		}
		for i, f := range factors {
			if i > 0 && factors[i-1].N >= f.N || f.N < 1 || len(f.P) < 2 || rational.Text(f.P[len(f.P)-1]) != "1" || len(poly.Gcd(f.P, poly.Diff(f.P))) != 1 {
				t.Fatalf("the factors of %s are %s", text(a), decomposition(factors))
			}
			for _, g := range factors[:i] {
				if len(poly.Gcd(f.P, g.P)) != 1 {
					t.Fatalf("the factors of %s are %s", text(a), decomposition(factors))
				}
			}
		}
	}
}
