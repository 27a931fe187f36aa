package matrix_test

import (
	"math/rand"
	"slices"
	"testing"

	"quadrature/api"
	"quadrature/integer"
	"quadrature/matrix"
	"quadrature/rational"
)

// dot returns the sum of the elements of a times those of b.
func dot(a, b []api.Rat) api.Rat {
	sum := rational.Whole(0)
	for i := range a {
		sum = rational.Add(sum, rational.Mul(a[i], b[i]))
	}
	return sum
}

// applied returns the product of m and x.
func applied(m [][]api.Rat, x []api.Rat) []api.Rat {
	out := []api.Rat{}
	for _, row := range m {
		out = append(out, dot(row, x))
	}
	return out
}

// combination returns the product of w and m.
func combination(w []api.Rat, m [][]api.Rat) []api.Rat {
	if len(m) == 0 {
		return nil
	}
	return applied(turned(m, len(m[0])), w)
}

// turned returns the transpose of m, which has the given number of columns.
func turned(m [][]api.Rat, cols int) [][]api.Rat {
	out := make([][]api.Rat, cols)
	for col := range cols {
		for _, row := range m {
			out[col] = append(out[col], row[col])
		}
	}
	return out
}

// product returns the product of the matrices a and b.
func product(a, b [][]api.Rat) [][]api.Rat {
	var out [][]api.Rat
	for _, row := range a {
		out = append(out, combination(row, b))
	}
	return out
}

// scale returns c times row.
func scale(c api.Rat, row []api.Rat) []api.Rat {
	var out []api.Rat
	for _, x := range row {
		out = append(out, rational.Mul(c, x))
	}
	return out
}

// plus returns a + b.
func plus(a, b []api.Rat) []api.Rat {
	var out []api.Rat
	for i := range a {
		out = append(out, rational.Add(a[i], b[i]))
	}
	return out
}

// exchanged returns m with the rows i and k exchanged.
func exchanged(m [][]api.Rat, i, k int) [][]api.Rat {
	out := slices.Clone(m)
	out[i], out[k] = out[k], out[i]
	return out
}

// replaced returns m with another row i.
func replaced(m [][]api.Rat, i int, row []api.Rat) [][]api.Rat {
	out := slices.Clone(m)
	out[i] = row
	return out
}

// det returns the determinant of m.
func det(t *testing.T, m [][]api.Rat) api.Rat {
	t.Helper()
	d, err := matrix.Det(m)
	if err != api.OK {
		t.Fatalf("Det of %s: %v", textOf(m), err)
	}
	return d
}

func TestRowOperationsKeepTheForm(t *testing.T) {
	samples(121, 20, 5, func(r *rand.Rand, m [][]api.Rat, cols int) {
		if len(m) == 0 {
			return
		}
		form, pivots := matrix.Rref(m)
		i, k := r.Intn(len(m)), r.Intn(len(m))
		others := map[string][][]api.Rat{
			"exchanging rows":      exchanged(m, i, k),
			"multiplying a row":    replaced(m, i, scale(nonzero(r), m[i])),
			"negating a row":       replaced(m, i, scale(number(t, "-1"), m[i])),
			"a fraction of a row":  replaced(m, i, scale(number(t, "-2/3"), m[i])),
			"appending a sum":      append(slices.Clone(m), combination(elements(r, len(m)), m)),
			"appending zeros":      append(slices.Clone(m), scale(number(t, "0"), m[i])),
			"putting a sum first":  slices.Concat([][]api.Rat{combination(elements(r, len(m)), m), m[k]}, m),
			"the form of the form": form,
		}
		if i != k {
			others["adding a multiple"] = replaced(m, i, plus(m[i], scale(element(r), m[k])))
		}
		for what, other := range others {
			if len(other) == 0 {
				continue
			}
			if got, at := matrix.Rref(other); textOf(got) != textOf(form) || !slices.Equal(at, pivots) {
				t.Fatalf("%s: %s has the form %s, and %s has %s", what, textOf(m), textOf(form), textOf(other), textOf(got))
			}
		}
	})
}

func TestRanks(t *testing.T) {
	samples(122, 40, 6, func(r *rand.Rand, m [][]api.Rat, cols int) {
		rank, null := matrix.Rank(m), matrix.Null(m, cols)
		if other := matrix.Rank(turned(m, cols)); rank != other {
			t.Fatalf("%s has the rank %d, and its transpose %d", textOf(m), rank, other)
		}
		if rank+len(null) != cols {
			t.Fatalf("%s has the rank %d, and Null has %d vectors", textOf(m), rank, len(null))
		}
		form, pivots := matrix.Rref(m)
		if rank != len(form) || rank != len(pivots) {
			t.Fatalf("%s has the rank %d and the form %s, %v", textOf(m), rank, textOf(form), pivots)
		}
	})
}

func TestNullHasTheFormOfTheChapter(t *testing.T) {
	samples(123, 40, 6, func(r *rand.Rand, m [][]api.Rat, cols int) {
		_, pivots := matrix.Rref(m)
		null, next := matrix.Null(m, cols), 0
		for free := range cols {
			if slices.Contains(pivots, free) {
				continue
			}
			if next == len(null) {
				t.Fatalf("Null of %s has only %d vectors", textOf(m), next)
			}
			v := null[next]
			next++
			if len(v) != cols || !zero(applied(m, v)) {
				t.Fatalf("the product of %s and %s is not 0", textOf(m), text(v))
			}
			for col, c := range v {
				want := "0"
				if col == free {
					want = "1"
				}
				if !slices.Contains(pivots, col) && rational.Text(c) != want {
					t.Fatalf("Null of %s: %s has %s in the column %d", textOf(m), text(v), rational.Text(c), col)
				}
			}
		}
		if next != len(null) {
			t.Fatalf("Null of %s has %d vectors, and there are %d free columns", textOf(m), len(null), next)
		}
	})
}

func TestRowsWithASolution(t *testing.T) {
	samples(124, 40, 6, func(r *rand.Rand, m [][]api.Rat, cols int) {
		b := applied(m, elements(r, cols))
		x, w, ok := matrix.Solve(m, b)
		if !ok || w != nil {
			t.Fatalf("Solve of %s and %s: %s, %v", textOf(m), text(b), text(w), ok)
		}
		if len(m) == 0 {
			if len(x) != 0 {
				t.Fatalf("Solve without rows: %s", text(x))
			}
			return
		}
		if len(x) != cols || text(applied(m, x)) != text(b) {
			t.Fatalf("Solve of %s and %s = %s", textOf(m), text(b), text(x))
		}
		_, pivots := matrix.Rref(m)
		for col, c := range x {
			if !slices.Contains(pivots, col) && rational.Sign(c) != 0 {
				t.Fatalf("Solve of %s and %s = %s, which is not 0 in the free column %d", textOf(m), text(b), text(x), col)
			}
		}
	})
}

// contradiction returns a system in which one equation is a combination of the other ones but for its right side.
func contradiction(r *rand.Rand, m [][]api.Rat, cols int) ([][]api.Rat, []api.Rat) {
	b, factors := elements(r, len(m)), elements(r, len(m))
	row := scale(rational.Whole(0), elements(r, cols))
	if len(m) > 0 {
		row = combination(factors, m)
	}
	right := rational.Add(dot(factors, b), nonzero(r))
	i := r.Intn(len(m) + 1)
	return slices.Insert(slices.Clone(m), i, row), slices.Insert(b, i, right)
}

func TestContradictoryRows(t *testing.T) {
	samples(125, 40, 5, func(r *rand.Rand, m [][]api.Rat, cols int) {
		m, b := contradiction(r, m, cols)
		mustRefute(t, m, b)
	})
}

func TestAlternative(t *testing.T) {
	solved, refuted := 0, 0
	samples(126, 40, 5, func(r *rand.Rand, m [][]api.Rat, cols int) {
		b := elements(r, len(m))
		x, _, ok := matrix.Solve(m, b)
		if !ok {
			mustRefute(t, m, b)
			refuted++
			return
		}
		solved++
		if len(m) > 0 && (len(x) != cols || text(applied(m, x)) != text(b)) {
			t.Fatalf("Solve of %s and %s = %s", textOf(m), text(b), text(x))
		}
		// If a combination of the equations were contradictory, the equations for its elements would have a solution.
		goal := append(scale(rational.Whole(0), elements(r, cols)), rational.Whole(1))
		joined := append(turned(m, cols), b)
		if w, _, both := matrix.Solve(joined, goal); both {
			t.Fatalf("%s and %s: the solution %s and the contradiction %s", textOf(m), text(b), text(x), text(w))
		}
	})
	if solved < 200 || refuted < 200 {
		t.Errorf("%d systems had solutions, and %d had none", solved, refuted)
	}
}

// squares calls visit with pairs of matrices with as many rows as columns.
func squares(seed int64, times int, visit func(r *rand.Rand, a, b [][]api.Rat)) {
	r := rand.New(rand.NewSource(seed))
	for range times {
		for size := range 6 {
			visit(r, sample(r, size, size), sample(r, size, size))
		}
	}
}

func TestDeterminantsMultiply(t *testing.T) {
	squares(127, 60, func(r *rand.Rand, a, b [][]api.Rat) {
		x, y, z := det(t, a), det(t, b), det(t, product(a, b))
		if rational.Cmp(rational.Mul(x, y), z) != 0 {
			t.Fatalf("%s and %s have the determinants %s and %s, their product has %s", textOf(a), textOf(b), rational.Text(x), rational.Text(y), rational.Text(z))
		}
	})
}

func TestDeterminantsOfSingularMatrices(t *testing.T) {
	singular := 0
	squares(128, 100, func(r *rand.Rand, a, _ [][]api.Rat) {
		zero := rational.Sign(det(t, a)) == 0
		if null := matrix.Null(a, len(a)); zero != (len(null) > 0) {
			t.Fatalf("%s: the determinant is %s, and Null is %s", textOf(a), rational.Text(det(t, a)), textOf(null))
		}
		if zero {
			singular++
		}
	})
	if singular < 100 {
		t.Errorf("only %d of the determinants were 0", singular)
	}
}

func TestRowOperationsAndDeterminants(t *testing.T) {
	squares(129, 60, func(r *rand.Rand, a, _ [][]api.Rat) {
		if len(a) < 2 {
			return
		}
		i := r.Intn(len(a))
		k := (i + 1 + r.Intn(len(a)-1)) % len(a)
		c, d := element(r), det(t, a)
		for what, pair := range map[string][2]api.Rat{
			"exchanging rows":   {det(t, exchanged(a, i, k)), rational.Neg(d)},
			"multiplying a row": {det(t, replaced(a, i, scale(c, a[i]))), rational.Mul(c, d)},
			"adding a multiple": {det(t, replaced(a, i, plus(a[i], scale(c, a[k])))), d},
			"the transpose":     {det(t, turned(a, len(a))), d},
		} {
			if rational.Cmp(pair[0], pair[1]) != 0 {
				t.Fatalf("%s of %s: the determinant is %s, want %s", what, textOf(a), rational.Text(pair[0]), rational.Text(pair[1]))
			}
		}
	})
}

// hilbert returns the matrix of the numbers 1/(i + k + 1).
func hilbert(size int) [][]api.Rat {
	m := make([][]api.Rat, size)
	for i := range m {
		for k := range size {
			c, _ := rational.Of(integer.Of(1), integer.Of(int64(i+k+1)))
			m[i] = append(m[i], c)
		}
	}
	return m
}

func TestLargeSystems(t *testing.T) {
	r := rand.New(rand.NewSource(130))
	ones, m := scale(rational.Whole(0), elements(r, 30)), make([][]api.Rat, 30)
	for i := range m {
		ones[i] = rational.Whole(1)
		for range 30 {
			m[i] = append(m[i], rational.Whole(r.Int63()-r.Int63()))
		}
	}
	for _, a := range [][][]api.Rat{m, hilbert(30)} {
		x := elements(r, 30)
		mustSolve(t, a, applied(a, x), text(x))
		sum := applied(turned(a, 30), ones)
		mustRefute(t, append(slices.Clone(a), sum), append(applied(a, x), rational.Add(dot(sum, x), nonzero(r))))
	}
	mustDet(t, hilbert(5), "1/266716800000")
}

// TestDeterminantsOfPowers has the matrices of the powers of some numbers, whose determinants are the products of the differences of these numbers.
func TestDeterminantsOfPowers(t *testing.T) {
	r := rand.New(rand.NewSource(131))
	for size := range 16 {
		l, m, want := elements(r, size), make([][]api.Rat, size), rational.Whole(1)
		for i, c := range l {
			for k := range size {
				p, _ := rational.Pow(c, k)
				m[i] = append(m[i], p)
			}
			for _, d := range l[:i] {
				want = rational.Mul(want, rational.Sub(c, d))
			}
		}
		mustDet(t, m, rational.Text(want))
	}
}
