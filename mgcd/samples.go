package mgcd

import (
	"maps"
	"slices"
)

// samples are the values of a polynomial at some numbers in place of its last variable.
type samples struct {
	field
	points line
	// values has, for the exponents of each term, its coefficients at the points, without zeros at the end.
	values map[exponents]line
}

// include adds the value g at x.
func (s *samples) include(x uint64, g image) {
	if s.values == nil {
		s.values = map[exponents]line{}
	}
	for _, y := range g {
		row := s.values[y.e]
		for len(row) < len(s.points) {
			row = append(row, 0)
		}
		s.values[y.e] = append(row, y.c)
	}
	s.points = append(s.points, x)
}

// polynomial returns the polynomial in v and the variables before it that has the values.
func (s *samples) polynomial(v int) image {
	keys := slices.SortedFunc(maps.Keys(s.values), func(a, b exponents) int { return compare(b, a) })
	sums := make([]line, len(keys))
	for k := range keys {
		sums[k] = make(line, len(s.points))
	}
	roots := s.roots()
	for i, x := range s.points {
		l := s.basis(roots, x)
		for k, e := range keys {
			if row := s.values[e]; i < len(row) {
				s.accumulate(sums[k], l, row[i])
			}
		}
	}
	var out image
	for k, e := range keys {
		out = out.put(e, sums[k], v)
	}
	return out
}

// roots returns the polynomial that is 0 at all points.
func (s *samples) roots() line {
	out := line{1}
	for _, x := range s.points {
		out = s.times(out, line{s.sub(0, x), 1})
	}
	return out
}

// basis returns the polynomial that is 1 at x and 0 at all other points.
func (s *samples) basis(roots line, x uint64) line {
	l := s.over(roots, line{s.sub(0, x), 1})
	return s.scale(l, s.inverse(s.value(l, x)))
}
