package matrix_test

import (
	"slices"
	"strings"
	"testing"

	"quadrature/api"
	"quadrature/matrix"
	"quadrature/rational"
)

// number returns the rational number with the notation s.
func number(t *testing.T, s string) api.Rat {
	t.Helper()
	c, err := rational.Read(s)
	if err != api.OK {
		t.Fatalf("rational.Read(%q): %v", s, err)
	}
	return c
}

// list returns the numbers that s lists.
func list(t *testing.T, s string) []api.Rat {
	t.Helper()
	out := []api.Rat{}
	for _, word := range strings.Fields(s) {
		out = append(out, number(t, word))
	}
	return out
}

// of returns the matrix whose rows s lists, each of them in parentheses.
func of(t *testing.T, s string) [][]api.Rat {
	t.Helper()
	var m [][]api.Rat
	for part := range strings.SplitAfterSeq(s, ")") {
		if part != "" {
			m = append(m, list(t, strings.Trim(part, "()")))
		}
	}
	return m
}

// text lists numbers.
func text(l []api.Rat) string {
	var words []string
	for _, c := range l {
		words = append(words, rational.Text(c))
	}
	return strings.Join(words, " ")
}

// textOf lists the rows of a matrix, each of them in parentheses.
func textOf(m [][]api.Rat) string {
	out := ""
	for _, row := range m {
		out += "(" + text(row) + ")"
	}
	return out
}

// valid reports whether all elements of m are valid.
func valid(m ...[]api.Rat) bool {
	return !slices.ContainsFunc(m, func(row []api.Rat) bool {
		return slices.ContainsFunc(row, func(c api.Rat) bool { return !rational.Valid(c) })
	})
}

// zero reports whether all elements of l are 0.
func zero(l []api.Rat) bool {
	return !slices.ContainsFunc(l, func(c api.Rat) bool { return rational.Sign(c) != 0 })
}

// mustReduce checks the reduced row echelon form of m, its pivots, and the rank.
func mustReduce(t *testing.T, m [][]api.Rat, want string, wantPivots ...int) {
	t.Helper()
	form, pivots := matrix.Rref(m)
	if textOf(form) != want || !slices.Equal(pivots, wantPivots) || !valid(form...) {
		t.Fatalf("Rref of %s = %s, %v, want %s, %v", textOf(m), textOf(form), pivots, want, wantPivots)
	}
	if got := matrix.Rank(m); got != len(wantPivots) {
		t.Fatalf("Rank of %s = %d, want %d", textOf(m), got, len(wantPivots))
	}
}

// mustHaveNull checks the basis of the lists whose product with m is 0.
func mustHaveNull(t *testing.T, m [][]api.Rat, cols int, want string) {
	t.Helper()
	if got := matrix.Null(m, cols); textOf(got) != want || !valid(got...) {
		t.Fatalf("Null of %s with %d columns = %s, want %s", textOf(m), cols, textOf(got), want)
	}
}

// mustSolve checks that Solve gives the solution x.
func mustSolve(t *testing.T, m [][]api.Rat, b []api.Rat, want string) {
	t.Helper()
	x, w, ok := matrix.Solve(m, b)
	if !ok || w != nil || text(x) != want || !valid(x) {
		t.Fatalf("Solve of %s and %s = %s, %s, %v, want %s", textOf(m), text(b), text(x), text(w), ok, want)
	}
}

// mustRefute checks that Solve gives a contradictory combination of the equations, and returns it.
func mustRefute(t *testing.T, m [][]api.Rat, b []api.Rat) []api.Rat {
	t.Helper()
	x, w, ok := matrix.Solve(m, b)
	if ok || x != nil || len(w) != len(m) || !valid(w) {
		t.Fatalf("Solve of %s and %s = %s, %s, %v, want no solution", textOf(m), text(b), text(x), text(w), ok)
	}
	if !zero(combination(w, m)) {
		t.Fatalf("Solve of %s and %s: the product of %s with the matrix is not 0", textOf(m), text(b), text(w))
	}
	if rational.Text(dot(w, b)) != "1" {
		t.Fatalf("Solve of %s and %s: the product of %s with the right sides is not 1", textOf(m), text(b), text(w))
	}
	return w
}

// mustDet checks the determinant of m.
func mustDet(t *testing.T, m [][]api.Rat, want string) {
	t.Helper()
	got, err := matrix.Det(m)
	if err != api.OK || rational.Text(got) != want || !rational.Valid(got) {
		t.Fatalf("Det of %s = %v, %v, want %s", textOf(m), got, err, want)
	}
}

// mustHaveNoDet checks that Det refuses m with ErrArg and the zero value.
func mustHaveNoDet(t *testing.T, m [][]api.Rat) {
	t.Helper()
	got, err := matrix.Det(m)
	if err != api.ErrArg || got.Num.Neg || got.Den.Neg || len(got.Num.Mag)+len(got.Den.Mag) != 0 {
		t.Fatalf("Det of %s = %v, %v, want the zero value and ErrArg", textOf(m), got, err)
	}
}

func TestExamplesOfTheChapter(t *testing.T) {
	mustReduce(t, of(t, "(2 4)(1 2)"), "(1 2)", 0)
	mustHaveNull(t, of(t, "(1 2)"), 2, "(-2 1)")
	if w := mustRefute(t, of(t, "(1)(1)"), list(t, "0 1")); text(w) != "-1 1" {
		t.Errorf("w = %s", text(w))
	}
	mustDet(t, of(t, "(1 2)(3 4)"), "-2")

	mustReduce(t, of(t, "(0 2 4)(1 1 1)"), "(1 0 -1)(0 1 2)", 0, 1)
	mustHaveNull(t, of(t, "(0 2 4)(1 1 1)"), 3, "(1 -2 1)")
	mustSolve(t, of(t, "(1 1)(1 -1)"), list(t, "3 1"), "2 1")
	if w := mustRefute(t, of(t, "(1 1)(2 2)"), list(t, "1 3")); text(w) != "-2 1" {
		t.Errorf("w = %s", text(w))
	}
	mustDet(t, of(t, "(2)"), "2")
	mustDet(t, nil, "1")
	mustHaveNoDet(t, of(t, "(1 2)"))
}

func TestRref(t *testing.T) {
	for _, x := range []struct {
		m, want string
		pivots  []int
	}{
		// No rows, no columns, zeros.
		{"", "", nil}, {"()", "", nil}, {"()()()", "", nil}, {"(0)", "", nil}, {"(0 0 0)", "", nil}, {"(0 0)(0 0)(0 0)", "", nil},
		// One row, one column.
		{"(1)", "(1)", []int{0}}, {"(-3)", "(1)", []int{0}}, {"(2/7)", "(1)", []int{0}}, {"(3 -6 1)", "(1 -2 1/3)", []int{0}}, {"(0 -2 5)", "(0 1 -5/2)", []int{1}}, {"(0 0 4/3)", "(0 0 1)", []int{2}},
		{"(0)(0)(7)", "(1)", []int{0}}, {"(5)(-5)(1/2)", "(1)", []int{0}},
		// Zero rows.
		{"(0 0)(1 2)", "(1 2)", []int{0}}, {"(1 2)(0 0)", "(1 2)", []int{0}}, {"(0 0)(0 3)(0 0)(2 1)(0 0)", "(1 0)(0 1)", []int{0, 1}},
		// Proportional rows.
		{"(1 2)(2 4)", "(1 2)", []int{0}}, {"(2 -4 6)(-1 2 -3)(1/3 -2/3 1)", "(1 -2 3)", []int{0}}, {"(0 2 1)(0 -2 -1)", "(0 1 1/2)", []int{1}}, {"(1 1)(1 1)(1 2)", "(1 0)(0 1)", []int{0, 1}},
		// Zero columns on the left and between the pivots.
		{"(0 0 1)(0 0 2)", "(0 0 1)", []int{2}}, {"(0 1 2)(0 3 4)", "(0 1 0)(0 0 1)", []int{1, 2}}, {"(1 0 2)(3 0 4)", "(1 0 0)(0 0 1)", []int{0, 2}}, {"(0 0 2 0 4 0 0)(0 0 1 0 3 0 5)", "(0 0 1 0 0 0 -10)(0 0 0 0 1 0 5)", []int{2, 4}},
		// Free columns that are not zero, between the pivots and behind them.
		{"(1 2 3)(2 4 7)", "(1 2 0)(0 0 1)", []int{0, 2}}, {"(1 2 0 3)(0 0 1 4)", "(1 2 0 3)(0 0 1 4)", []int{0, 2}}, {"(2 1 1 1)(4 2 3 5)(6 3 4 6)", "(1 1/2 0 -1)(0 0 1 3)", []int{0, 2}},
		// More rows than columns, and more columns than rows.
		{"(1 2)(3 4)(5 6)", "(1 0)(0 1)", []int{0, 1}}, {"(1 2)(2 4)(3 6)(4 8)", "(1 2)", []int{0}}, {"(1 2 3 4)(5 6 7 8)", "(1 0 -1 -2)(0 1 2 3)", []int{0, 1}},
		// The first places are 0: rows must be exchanged.
		{"(0 1)(1 0)", "(1 0)(0 1)", []int{0, 1}}, {"(0 0 1)(0 1 0)(1 0 0)", "(1 0 0)(0 1 0)(0 0 1)", []int{0, 1, 2}}, {"(1 1 1)(1 1 2)(1 2 1)", "(1 0 0)(0 1 0)(0 0 1)", []int{0, 1, 2}},
		// Fractions and negative elements.
		{"(1/2 1/3)(1/4 1/5)", "(1 0)(0 1)", []int{0, 1}}, {"(1/2 1/3 -1)(-3/2 -1 3)", "(1 2/3 -2)", []int{0}}, {"(2 3 5)(7 11 13)", "(1 0 16)(0 1 -9)", []int{0, 1}}, {"(-1/2 3/4 1 0)(2/3 -1 0 1)", "(1 -3/2 0 3/2)(0 0 1 3/4)", []int{0, 2}},
		{"(123456789012345678901234567890 1)(1/123456789012345678901234567890 2)", "(1 0)(0 1)", []int{0, 1}}, {"(123456789012345678901234567890 1)", "(1 1/123456789012345678901234567890)", []int{0}},
	} {
		mustReduce(t, of(t, x.m), x.want, x.pivots...)
	}
}

func TestNull(t *testing.T) {
	for _, x := range []struct {
		m    string
		cols int
		want string
	}{
		{"", 0, ""}, {"", 1, "(1)"}, {"", 3, "(1 0 0)(0 1 0)(0 0 1)"}, {"()", 0, ""}, {"()()", 0, ""},
		{"(0)", 1, "(1)"}, {"(0 0)(0 0)(0 0)", 2, "(1 0)(0 1)"},
		// Full rank.
		{"(5)", 1, ""}, {"(1 2)(3 4)", 2, ""}, {"(1 2)(3 4)(5 6)", 2, ""}, {"(0 1)(1 0)", 2, ""},
		// One free column: the first one, one between pivots, the last one.
		{"(0 1)", 2, "(1 0)"}, {"(0 3 0)(0 0 2)", 3, "(1 0 0)"}, {"(1 2 0)(0 0 1)", 3, "(-2 1 0)"}, {"(1 0 2)(0 1 -3)", 3, "(-2 3 1)"}, {"(2 3)", 2, "(-3/2 1)"}, {"(-4 1/3)", 2, "(1/12 1)"},
		// Several free columns.
		{"(1 2 3)", 3, "(-2 1 0)(-3 0 1)"}, {"(0 1 2)", 3, "(1 0 0)(0 -2 1)"}, {"(1 2 0 3)(0 0 1 4)", 4, "(-2 1 0 0)(-3 0 -4 1)"}, {"(0 2 0 4 6)(0 0 0 0 0)", 5, "(1 0 0 0 0)(0 0 1 0 0)(0 -2 0 1 0)(0 -3 0 0 1)"}, {"(1 1 1 1)(2 2 2 2)", 4, "(-1 1 0 0)(-1 0 1 0)(-1 0 0 1)"},
	} {
		mustHaveNull(t, of(t, x.m), x.cols, x.want)
	}
}

func TestSolve(t *testing.T) {
	for _, x := range []struct{ m, b, want string }{
		// No rows, no columns, zeros.
		{"", "", ""}, {"()", "0", ""}, {"()()", "0 0", ""}, {"(0)", "0", "0"}, {"(0 0)(0 0)", "0 0", "0 0"},
		// One solution.
		{"(2)", "6", "3"}, {"(3)", "-2", "-2/3"}, {"(1/2)", "1/3", "2/3"}, {"(1 2)(3 4)", "5 6", "-4 9/2"}, {"(0 1)(1 0)", "2 3", "3 2"}, {"(1 2)(3 4)", "0 0", "0 0"}, {"(1/2 1/3)(1/4 -1/5)", "1 1", "32/11 -15/11"},
		{"(1 1)(1 -1)(2 0)(0 0)", "3 1 4 0", "2 1"}, {"(0 0)(1 2)(3 4)", "0 5 6", "-4 9/2"}, {"(1)(2)(-3)", "4 8 -12", "4"},
		// Several: the elements in the free columns are 0.
		{"(1 2)", "3", "3 0"}, {"(0 2)", "3", "0 3/2"}, {"(1 2 3)(4 5 6)", "6 15", "0 3 0"}, {"(1 2 0 3)(0 0 1 4)", "5 6", "5 0 6 0"}, {"(1 1)(2 2)", "3 6", "3 0"}, {"(0 0 3)(0 0 1)", "6 2", "0 0 2"}, {"(2 4 1)(1 2 1)(3 6 2)", "3 2 5", "1 0 1"},
	} {
		mustSolve(t, of(t, x.m), list(t, x.b), x.want)
	}
}

func TestSolveWithoutSolution(t *testing.T) {
	for _, x := range []struct{ m, b, want string }{
		// Where only one combination is contradictory, it is checked, too.
		{"()", "1", "1"}, {"()()", "0 1", ""}, {"()()", "1/2 3", ""}, {"(0)", "5", "1/5"}, {"(0 0)", "-2/3", "-3/2"}, {"(0 0)(1 2)", "1 7", "1 0"}, {"(0)(0)", "1 0", ""},
		{"(1)(1)", "0 1", "-1 1"}, {"(1)(1)", "1 0", "1 -1"}, {"(2)(3)", "1 1", "3 -2"}, {"(1)(2)(3)", "1 2 4", ""}, {"(1)(2)(3)", "1 3 4", ""},
		{"(1 1)(2 2)", "1 3", "-2 1"}, {"(1 2)(3 4)(5 6)", "1 1 2", "1 -2 1"}, {"(1 2)(2 4)(3 5)", "1 1 1", "2 -1 0"}, {"(0 1)(0 2)", "1 3", "-2 1"}, {"(1/2 1/3)(1/4 1/6)", "1 1", "-1 2"}, {"(0 0 0)(0 1 2)(0 2 4)(0 3 6)", "0 1 2 4", ""},
		{"(1 2 3)(4 5 6)(7 8 9)", "1 0 0", "1 -2 1"}, {"(1 2 3)(4 5 6)(5 7 9)", "1 1 1", "1 1 -1"},
	} {
		if w := mustRefute(t, of(t, x.m), list(t, x.b)); x.want != "" && text(w) != x.want {
			t.Errorf("Solve of %s and %s: w = %s, want %s", x.m, x.b, text(w), x.want)
		}
	}
}

func TestDet(t *testing.T) {
	for _, x := range []struct{ m, want string }{
		{"", "1"}, {"(0)", "0"}, {"(1)", "1"}, {"(-5/3)", "-5/3"},
		// With inverse.
		{"(1 0)(0 1)", "1"}, {"(2 0)(0 3)", "6"}, {"(1 2)(3 5)", "-1"}, {"(1/2 1/3)(1/4 1/5)", "1/60"}, {"(-2 0)(5 -7/2)", "7"}, {"(1 2 3)(4 5 6)(7 8 10)", "-3"}, {"(2 1 0)(1 2 1)(0 1 2)", "4"}, {"(1 1/2 1/3)(1/2 1/3 1/4)(1/3 1/4 1/5)", "1/2160"},
		{"(6 10)(15 35)", "60"}, {"(6 0 0)(0 10 0)(0 0 15)", "900"}, {"(2 4)(6 8)", "-8"}, {"(1/2 0 0)(0 -1/3 0)(7 8 4/5)", "-2/15"},
		// Without.
		{"(0 0)(0 0)", "0"}, {"(1 2)(2 4)", "0"}, {"(0 1)(0 2)", "0"}, {"(0 0)(1 2)", "0"}, {"(1 2 3)(4 5 6)(7 8 9)", "0"}, {"(1 2 3)(1 2 3)(0 1 0)", "0"}, {"(1/2 1/3)(3/2 1)", "0"},
		// A zero in the first place: one exchange, two of them, and places further below.
		{"(0 1)(1 0)", "-1"}, {"(0 2)(3 4)", "-6"}, {"(0 1 0)(0 0 1)(1 0 0)", "1"}, {"(0 0 1)(0 1 0)(1 0 0)", "-1"}, {"(0 0 2)(3 0 0)(0 5 0)", "30"}, {"(1 1 1)(1 1 2)(1 2 1)", "-1"}, {"(0 0 0 1)(0 0 1 0)(0 1 0 0)(1 0 0 0)", "1"}, {"(0 0 0 1)(1 0 0 0)(0 1 0 0)(0 0 1 0)", "-1"},
		{"(0 1 2)(0 3 4)(5 6 7)", "-10"}, {"(0 -1/2)(1/3 9)", "1/6"}, {"(123456789012345678901234567890 1)(1 1/123456789012345678901234567890)", "0"},
	} {
		mustDet(t, of(t, x.m), x.want)
	}
	for _, m := range []string{"()", "()()", "(1 2)", "(0 0)", "(1)(2)", "(0)(0)", "(1 2 3)(4 5 6)", "(1 2)(3 4)(5 6)"} {
		mustHaveNoDet(t, of(t, m))
	}
}
