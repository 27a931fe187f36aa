package sturm_test

import (
	"math/rand"
	"slices"
	"testing"

	"quadrature/api"
	"quadrature/integer"
	"quadrature/poly"
	"quadrature/rational"
	"quadrature/sturm"
)

func TestCountsOfAdjacentIntervalsAddUp(t *testing.T) {
	r := rand.New(rand.NewSource(51))
	for range 500 {
		p := sample(r, 7)
		ends := append(sturm.Rationals(p), coefficient(r), coefficient(r), coefficient(r))
		r.Shuffle(len(ends), func(i, k int) { ends[i], ends[k] = ends[k], ends[i] })
		ends = ends[:3]
		slices.SortFunc(ends, rational.Cmp)
		whole := sturm.Count(p, ends[0], ends[2])
		if left, right := sturm.Count(p, ends[0], ends[1]), sturm.Count(p, ends[1], ends[2]); left+right != whole {
			t.Fatalf("the counts of %s between %s are %d, %d, and together %d", text(p), text(ends), left, right, whole)
		}
	}
}

func TestCountDoesNotDependOnFactorsAndMultiplicities(t *testing.T) {
	r := rand.New(rand.NewSource(52))
	for range 300 {
		p, lo, hi := sample(r, 6), coefficient(r), coefficient(r)
		want := sturm.Count(p, lo, hi)
		mustCount(t, poly.Scale(p, nonzero(r)), lo, hi, want)
		mustCount(t, poly.Mul(p, poly.Mul(p, p)), lo, hi, want)
		mustCount(t, poly.Mul(p, poly.Gcd(p, poly.Diff(p))), lo, hi, want)
	}
}

func TestNoRootLiesOutsideTheBound(t *testing.T) {
	r := rand.New(rand.NewSource(53))
	for range 400 {
		p := sample(r, 8)
		b := api.Rat{Num: sturm.Bound(p), Den: integer.Of(1)}
		far := rational.Mul(b, rational.Whole(1<<40))
		mustCount(t, p, b, far, 0)
		// The root -b itself would be allowed.
		atEnd := 0
		if len(p) > 0 && rational.Sign(poly.Eval(p, rational.Neg(b))) == 0 {
			atEnd = 1
		}
		mustCount(t, p, rational.Neg(far), rational.Neg(b), atEnd)
	}
}

func TestRationalsAreRoots(t *testing.T) {
	r := rand.New(rand.NewSource(54))
	for range 500 {
		p := sample(r, 7)
		roots := sturm.Rationals(p)
		for i, c := range roots {
			if rational.Sign(poly.Eval(p, c)) != 0 || i > 0 && rational.Cmp(roots[i-1], c) >= 0 {
				t.Fatalf("Rationals(%s) = %s", text(p), text(roots))
			}
		}
		// The factors of the roots leave a polynomial without rational roots.
		for _, c := range roots {
			for rational.Sign(poly.Eval(p, c)) == 0 {
				p, _, _ = poly.DivMod(p, api.Poly{rational.Neg(c), rational.Whole(1)})
			}
		}
		mustHaveRoots(t, p, "")
	}
}

// mustMoveWith checks the roots and counts of p(x + c) against those of p.
func mustMoveWith(t *testing.T, p api.Poly, c, lo, hi api.Rat) {
	t.Helper()
	moved := poly.Shift(p, c)
	var want []api.Rat
	for _, a := range sturm.Rationals(p) {
		want = append(want, rational.Sub(a, c))
	}
	mustHaveRoots(t, moved, text(want))
	mustCount(t, moved, rational.Sub(lo, c), rational.Sub(hi, c), sturm.Count(p, lo, hi))
}

func TestSubstitution(t *testing.T) {
	r := rand.New(rand.NewSource(55))
	for range 300 {
		k := construct(r)
		lo, hi := coefficient(r), coefficient(r)
		for _, c := range []api.Rat{coefficient(r), rational.Whole(r.Int63n(2001) - 1000), rational.Whole(0)} {
			mustMoveWith(t, k.p, c, lo, hi)
			mustMoveWith(t, sample(r, 6), c, lo, hi)
		}
	}
}

func TestSubstitutionAtTheEdges(t *testing.T) {
	for _, p := range []string{"", "5", "0 1", "1 -2 1", "-2 0 1", "1 0 1", "0 -1 0 1"} {
		for _, c := range []string{"0", "1", "-1", "2/3", "-7/2", "100000000000000000000"} {
			// Roots at the ends of the interval stay there.
			mustMoveWith(t, of(t, p), number(t, c), number(t, "-1"), number(t, "1"))
			mustMoveWith(t, of(t, p), number(t, c), number(t, "1"), number(t, "-1"))
		}
	}
}
