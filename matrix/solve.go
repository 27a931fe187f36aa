package matrix

import (
	"slices"

	"quadrature/api"
)

// solution returns the list of cols elements that satisfies the equations, whose rows have their left side in the first cols columns and their right side behind it, and whose elements in the free columns are 0; or false if there is none.
func solution(equations [][]api.Rat, cols int) ([]api.Rat, bool) {
	form, pivots := Rref(equations)
	if slices.Contains(pivots, cols) {
		return nil, false
	}
	x := zeros(cols)
	for i, col := range pivots {
		x[col] = form[i][cols]
	}
	return x, true
}

// joined returns m with the elements of b as a further column.
func joined(m [][]api.Rat, b []api.Rat) [][]api.Rat {
	out := make([][]api.Rat, len(m))
	for i, row := range m {
		out[i] = append(slices.Clone(row), at(b, i))
	}
	return out
}

// transposed returns the matrix whose rows are the columns of m, of which there are cols.
func transposed(m [][]api.Rat, cols int) [][]api.Rat {
	out := make([][]api.Rat, cols)
	for col := range out {
		out[col] = collect(len(m), func(i int) api.Rat { return at(m[i], col) })
	}
	return out
}
