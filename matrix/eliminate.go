package matrix

import (
	"slices"

	"quadrature/api"
	"quadrature/rational"
)

// width returns the number of columns of m; 0 if m has no rows.
func width(m [][]api.Rat) int {
	if len(m) == 0 {
		return 0
	}
	return len(m[0])
}

// at returns the element of row in the given column. Rows of different lengths are no matrix, but they must do no harm: a row that is too short counts as if it went on with zeros.
func at(row []api.Rat, col int) api.Rat {
	if col < len(row) {
		return row[col]
	}
	return rational.Whole(0)
}

// load returns the rows of m as lines.
func load(m [][]api.Rat) []line {
	var lines []line
	for _, row := range m {
		elements := collect(width(m), func(col int) api.Rat { return at(row, col) })
		lines = append(lines, lowered(rational.Whole(1), elements))
	}
	return lines
}

// descend brings lines with the given number of columns to echelon form, without a change of their determinant, and returns the columns of the pivots. The lines that are 0 then come last.
func descend(lines []line, cols int) []int {
	var pivots []int
search:
	for col := range cols {
		top := len(pivots)
		for i := top; i < len(lines); i++ {
			if isZero(lines[i].whole[col]) {
				continue
			}
			exchange(lines, top, i)
			// The lines between have 0 in this column.
			for k := i + 1; k < len(lines); k++ {
				lines[k] = lines[k].without(lines[top], col)
			}
			pivots = append(pivots, col)
			continue search
		}
	}
	return pivots
}

// exchange exchanges two lines, and makes up for the sign of the determinant.
func exchange(lines []line, i, k int) {
	if i == k {
		return
	}
	lines[i], lines[k] = lines[k], lines[i]
	lines[k].factor = rational.Neg(lines[k].factor)
}

// ascend returns the reduced row echelon form of lines that are in echelon form with the given pivots.
func ascend(lines []line, pivots []int) [][]api.Rat {
	form := make([][]api.Rat, len(pivots))
	if len(pivots) == 0 {
		return form
	}
	// By Cramer's rule, the elements of the form have a common denominator that is, in most cases, the last pivot. The rows are multiplied by it until all are known: then nearly all numbers are integers.
	last := len(pivots) - 1
	common := lines[last].whole[pivots[last]]
	for i, col := range slices.Backward(pivots) {
		row := lines[i].whole
		sum := scaled(row, common)
		for k := i + 1; k < len(pivots); k++ {
			if f := row[pivots[k]]; !isZero(f) {
				sum = difference(rational.Whole(1), sum, f, form[k])
			}
		}
		form[i] = over(sum, row[col])
	}
	for i, row := range form {
		form[i] = over(row, common)
	}
	return form
}
