package matrix_test

import (
	"math/big"
	"math/rand"
	"slices"
	"testing"

	"quadrature/api"
	"quadrature/integer"
	"quadrature/matrix"
	"quadrature/rational"
)

// toBigInt returns a as an integer of the standard library.
func toBigInt(a api.Int) *big.Int {
	out := new(big.Int)
	for _, limb := range slices.Backward(a.Mag) {
		out.Lsh(out, 32)
		out.Or(out, big.NewInt(int64(limb)))
	}
	if a.Neg {
		out.Neg(out)
	}
	return out
}

// toPlain returns m with numbers of the standard library, which serves as the oracle.
func toPlain(m [][]api.Rat) [][]*big.Rat {
	out := make([][]*big.Rat, len(m))
	for i, row := range m {
		for _, c := range row {
			out[i] = append(out[i], new(big.Rat).SetFrac(toBigInt(c.Num), toBigInt(c.Den)))
		}
	}
	return out
}

// textOfPlain is like textOf.
func textOfPlain(m [][]*big.Rat) string {
	out := ""
	for _, row := range m {
		out += "("
		for i, c := range row {
			if i > 0 {
				out += " "
			}
			out += c.RatString()
		}
		out += ")"
	}
	return out
}

// plainRref brings a copy of m to reduced row echelon form, one pivot after the other, and returns the columns of the pivots.
func plainRref(m [][]*big.Rat) ([][]*big.Rat, []int) {
	rows := slices.Clone(m)
	var pivots []int
	for col := 0; len(rows) > 0 && col < len(rows[0]); col++ {
		top := len(pivots)
		i := slices.IndexFunc(rows[top:], func(row []*big.Rat) bool { return row[col].Sign() != 0 })
		if i < 0 {
			continue
		}
		rows[top], rows[top+i] = rows[top+i], rows[top]
		pivots = append(pivots, col)
		rows[top] = plainSubtract(rows[top], new(big.Rat).Sub(big.NewRat(1, 1), new(big.Rat).Inv(rows[top][col])), rows[top])
		for k, row := range rows {
			if k != top {
				rows[k] = plainSubtract(row, row[col], rows[top])
			}
		}
	}
	return rows[:len(pivots)], pivots
}

// plainSubtract returns a - c b.
func plainSubtract(a []*big.Rat, c *big.Rat, b []*big.Rat) []*big.Rat {
	var out []*big.Rat
	for i := range a {
		product := new(big.Rat).Mul(c, b[i])
		out = append(out, product.Sub(a[i], product))
	}
	return out
}

// plainDet returns the determinant of m by expansion along the first row.
func plainDet(m [][]*big.Rat) *big.Rat {
	if len(m) == 0 {
		return big.NewRat(1, 1)
	}
	det := new(big.Rat)
	for col, c := range m[0] {
		var minor [][]*big.Rat
		for _, row := range m[1:] {
			minor = append(minor, slices.Delete(slices.Clone(row), col, col+1))
		}
		part := plainDet(minor)
		part.Mul(part, c)
		if col%2 == 1 {
			part.Neg(part)
		}
		det.Add(det, part)
	}
	return det
}

// plainNull returns the vectors of the basis of Null as their definition says it, for a form with the given pivots.
func plainNull(form [][]*big.Rat, pivots []int, cols int) [][]*big.Rat {
	var basis [][]*big.Rat
	for free := range cols {
		if slices.Contains(pivots, free) {
			continue
		}
		var v []*big.Rat
		for col := range cols {
			c := new(big.Rat)
			if i := slices.Index(pivots, col); i >= 0 {
				c.Neg(form[i][free])
			} else if col == free {
				c.SetInt64(1)
			}
			v = append(v, c)
		}
		basis = append(basis, v)
	}
	return basis
}

// plainSolution returns the text of the solution that Solve has to return; false if there is none.
func plainSolution(m [][]api.Rat, b []api.Rat, cols int) (string, bool) {
	var equations [][]api.Rat
	for i, row := range m {
		equations = append(equations, append(slices.Clone(row), b[i]))
	}
	form, pivots := plainRref(toPlain(equations))
	if slices.Contains(pivots, cols) {
		return "", false
	}
	var x []*big.Rat
	for col := range cols {
		x = append(x, new(big.Rat))
		if i := slices.Index(pivots, col); i >= 0 {
			x[col] = form[i][cols]
		}
	}
	whole := textOfPlain([][]*big.Rat{x})
	return whole[1 : len(whole)-1], true
}

// check compares all functions at m with the oracle.
func check(t *testing.T, m [][]api.Rat, cols int, b []api.Rat) {
	t.Helper()
	form, pivots := plainRref(toPlain(m))
	mustReduce(t, m, textOfPlain(form), pivots...)
	mustHaveNull(t, m, cols, textOfPlain(plainNull(form, pivots, cols)))
	if want, ok := plainSolution(m, b, cols); len(m) == 0 {
		mustSolve(t, m, b, "")
	} else if ok {
		mustSolve(t, m, b, want)
	} else {
		mustRefute(t, m, b)
	}
	// A matrix without rows has a determinant, whatever its number of columns.
	if len(m) == cols || len(m) == 0 {
		mustDet(t, m, plainDet(toPlain(m)).RatString())
	} else {
		mustHaveNoDet(t, m)
	}
}

// element returns a number: 0, a small integer, a fraction, or a long one.
func element(r *rand.Rand) api.Rat {
	n, d := int64(r.Intn(9)-4), int64(1)
	switch r.Intn(8) {
	case 0:
		n = 0
	case 1, 2:
		d = 1 + int64(r.Intn(9))
	case 3:
		n, d = r.Int63()-r.Int63(), 1+r.Int63n(1<<40)
	}
	c, _ := rational.Of(integer.Of(n), integer.Of(d))
	return c
}

// nonzero returns a number other than 0.
func nonzero(r *rand.Rand) api.Rat {
	for {
		if c := element(r); rational.Sign(c) != 0 {
			return c
		}
	}
}

// elements returns a list of n numbers.
func elements(r *rand.Rand, n int) []api.Rat {
	out := []api.Rat{}
	for range n {
		out = append(out, element(r))
	}
	return out
}

// sample returns a matrix with the given number of rows and columns. In some of them rows are combinations of the ones before, columns are 0, or most elements are 0.
func sample(r *rand.Rand, rows, cols int) [][]api.Rat {
	var m [][]api.Rat
	kind := r.Intn(4)
	for len(m) < rows {
		row := elements(r, cols)
		if kind == 1 && len(m) > 0 && r.Intn(2) == 0 {
			row = combination(elements(r, len(m)), m)
		}
		for col := range row {
			if kind == 2 && r.Intn(3) > 0 {
				row[col] = rational.Whole(0)
			}
		}
		m = append(m, row)
	}
	if kind == 3 && cols > 0 {
		empty := r.Intn(cols)
		for _, row := range m {
			row[empty] = rational.Whole(0)
		}
	}
	return m
}

// samples calls visit with matrices of all shapes up to the given size, several times each.
func samples(seed int64, times, size int, visit func(r *rand.Rand, m [][]api.Rat, cols int)) {
	r := rand.New(rand.NewSource(seed))
	for range times {
		for rows := range size + 1 {
			for cols := range size + 1 {
				visit(r, sample(r, rows, cols), cols)
			}
		}
	}
}

func TestAgainstOracle(t *testing.T) {
	samples(111, 40, 5, func(r *rand.Rand, m [][]api.Rat, cols int) {
		b := elements(r, len(m))
		if r.Intn(2) == 0 {
			b = applied(m, elements(r, cols))
		}
		check(t, m, cols, b)
	})
}

// small calls visit with all matrices of the given shape whose elements are -1, 0 or 1: they have zero rows, zero columns and proportional rows in all combinations.
func small(rows, cols int, visit func(m [][]api.Rat)) {
	codes := 1
	for range rows * cols {
		codes *= 3
	}
	for code := range codes {
		var m [][]api.Rat
		for range rows {
			row := []api.Rat{}
			for range cols {
				row = append(row, rational.Whole(int64(code%3)-1))
				code /= 3
			}
			m = append(m, row)
		}
		visit(m)
	}
}

func TestSmallMatricesAgainstOracle(t *testing.T) {
	b := list(t, "1 1 0 2")
	for rows := range 4 {
		for cols := range 4 {
			if rows*cols <= 6 {
				small(rows, cols, func(m [][]api.Rat) { check(t, m, cols, b[:rows]) })
			}
		}
	}
	small(3, 3, func(m [][]api.Rat) { mustDet(t, m, plainDet(toPlain(m)).RatString()) })
}

// echelonForm reports whether form is in reduced row echelon form with the given pivots.
func echelonForm(form [][]api.Rat, pivots []int, cols int) bool {
	if len(form) != len(pivots) {
		return false
	}
	for i, row := range form {
		first := slices.IndexFunc(row, func(c api.Rat) bool { return rational.Sign(c) != 0 })
		if len(row) != cols || first < 0 || first != pivots[i] || rational.Text(row[first]) != "1" || i > 0 && first <= pivots[i-1] {
			return false
		}
		for k, other := range form {
			if k != i && rational.Sign(other[first]) != 0 {
				return false
			}
		}
	}
	return true
}

func TestFormHasTheSameCombinations(t *testing.T) {
	samples(112, 20, 6, func(r *rand.Rand, m [][]api.Rat, cols int) {
		form, pivots := matrix.Rref(m)
		if !echelonForm(form, pivots, cols) && len(m) > 0 {
			t.Fatalf("Rref of %s = %s, %v, which is no such form", textOf(m), textOf(form), pivots)
		}
		// The pivots have the factors by which a row is a combination of the form.
		for _, row := range m {
			var factors []api.Rat
			for _, col := range pivots {
				factors = append(factors, row[col])
			}
			if len(pivots) > 0 && text(combination(factors, form)) != text(row) {
				t.Fatalf("%s is no combination of %s", text(row), textOf(form))
			}
		}
		// Further rows that are combinations of those of m do not increase its rank.
		if _, all := plainRref(toPlain(slices.Concat(m, form))); len(all) != len(form) {
			t.Fatalf("Rref of %s = %s: a row is no combination", textOf(m), textOf(form))
		}
	})
}
