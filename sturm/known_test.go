package sturm_test

import (
	"math/big"
	"math/rand"
	"slices"
	"testing"

	"quadrature/api"
	"quadrature/integer"
	"quadrature/poly"
	"quadrature/rational"
	"quadrature/sturm"
)

// root is the real number center + side sqrt(square); side is -1, 0 or 1, and square is not the square of a rational number.
type root struct {
	center api.Rat
	side   int
	square int64
}

// cmp returns -1, 0 or 1 if a is less than, equal to, or greater than x.
func (a root) cmp(x api.Rat) int {
	distance := toBig(rational.Sub(x, a.center))
	if a.side != distance.Sign() || a.side == 0 {
		return order(a.side, distance.Sign())
	}
	// Both lie on the same side of the center.
	squares := big.NewRat(a.square, 1).Cmp(distance.Mul(distance, distance))
	return a.side * squares
}

// order compares two small numbers.
func order(a, b int) int {
	switch {
	case a < b:
		return -1
	case a > b:
		return 1
	}
	return 0
}

// known is a polynomial with all its real roots, each of which is listed once.
type known struct {
	p     api.Poly
	roots []root
}

// multiply adds n factors that have the given roots.
func (k *known) multiply(factor api.Poly, n int, roots ...root) {
	for range n {
		k.p = poly.Mul(k.p, factor)
	}
	for _, a := range roots {
		same := func(b root) bool {
			return a.side == b.side && a.square == b.square && rational.Cmp(a.center, b.center) == 0
		}
		if !slices.ContainsFunc(k.roots, same) {
			k.roots = append(k.roots, a)
		}
	}
}

// construct returns a product of linear and quadratic factors with small multiplicities, times a number of any sign.
func construct(r *rand.Rand) known {
	k := known{p: api.Poly{nonzero(r)}}
	for range 1 + r.Intn(4) {
		a, n := coefficient(r), 1+r.Intn(3)
		line := api.Poly{rational.Neg(a), rational.Whole(1)}
		switch square := []int64{2, 3, 5, 6, 7}[r.Intn(5)]; r.Intn(4) {
		case 0:
			k.multiply(poly.Sub(poly.Mul(line, line), api.Poly{rational.Whole(square)}), n, root{a, 1, square}, root{a, -1, square})
		case 1:
			k.multiply(poly.Add(poly.Mul(line, line), api.Poly{rational.Whole(square)}), n)
		default:
			k.multiply(line, n, root{center: a})
		}
	}
	return k
}

// inside returns the number of roots behind lo up to hi.
func (k known) inside(lo, hi api.Rat) int {
	n := 0
	for _, a := range k.roots {
		if a.cmp(lo) > 0 && a.cmp(hi) <= 0 {
			n++
		}
	}
	return n
}

// rationals returns the rational roots in increasing order.
func (k known) rationals() []api.Rat {
	var out []api.Rat
	for _, a := range k.roots {
		if a.side == 0 {
			out = append(out, a.center)
		}
	}
	slices.SortFunc(out, rational.Cmp)
	return out
}

func TestKnownRootsAreCounted(t *testing.T) {
	r := rand.New(rand.NewSource(43))
	for range 400 {
		k := construct(r)
		ends := append(k.rationals(), coefficient(r), coefficient(r), coefficient(r), rational.Whole(-1000), rational.Whole(1000))
		for _, lo := range ends {
			for _, hi := range ends {
				mustCount(t, k.p, lo, hi, k.inside(lo, hi))
			}
		}
	}
}

func TestKnownRootsAreFound(t *testing.T) {
	r := rand.New(rand.NewSource(44))
	for range 400 {
		k := construct(r)
		mustHaveRoots(t, k.p, text(k.rationals()))
	}
}

func TestRootsLieWithinTheBound(t *testing.T) {
	r := rand.New(rand.NewSource(45))
	for range 400 {
		k := construct(r)
		b := api.Rat{Num: sturm.Bound(k.p), Den: integer.Of(1)}
		for _, a := range k.roots {
			if a.cmp(b) > 0 || a.cmp(rational.Neg(b)) < 0 {
				t.Fatalf("%s has the root %v, outside its bound %s", text(k.p), a, rational.Text(b))
			}
		}
		// The least integer: one less is less than 1 + max |a_i / a_n|.
		if len(k.p) < 2 {
			continue
		}
		reached := slices.ContainsFunc(k.p[:len(k.p)-1], func(c api.Rat) bool {
			q, _ := rational.Div(c, k.p[len(k.p)-1])
			two := rational.Whole(2)
			return rational.Cmp(rational.Sub(b, two), q) < 0 || rational.Cmp(rational.Sub(b, two), rational.Neg(q)) < 0
		})
		if !reached {
			t.Fatalf("Bound(%s) = %s is not the least one", text(k.p), rational.Text(b))
		}
	}
}
