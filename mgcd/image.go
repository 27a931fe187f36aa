package mgcd

import (
	"iter"
	"slices"
)

// entry is a term of an image.
type entry struct {
	e exponents
	c uint64
}

// image is a polynomial over a field: terms with strictly decreasing exponents, compared from index 0 on, and coefficients other than 0.
type image []entry

// degree returns the degree of a in the variable v.
func (a image) degree(v int) int {
	n := 0
	for _, x := range a {
		n = max(n, x.e[v])
	}
	return n
}

// lines yields the coefficients of a as a polynomial in the variables before v, which are polynomials in v, with the exponents of these variables. The variables after v do not occur.
func (a image) lines(v int) iter.Seq2[exponents, line] {
	return func(yield func(exponents, line) bool) {
		for len(a) > 0 {
			e, c := a[0].e, make(line, a[0].e[v]+1)
			e[v] = 0
			for len(a) > 0 {
				x := a[0]
				n := x.e[v]
				x.e[v] = 0
				if x.e != e {
					break
				}
				c[n] = x.c
				a = a[1:]
			}
			if !yield(e, c) {
				return
			}
		}
	}
}

// put appends the product of c, a polynomial in v, and the variables before v with the exponents e.
func (a image) put(e exponents, c line, v int) image {
	for n, x := range slices.Backward(c) {
		if x != 0 {
			e[v] = n
			a = append(a, entry{e, x})
		}
	}
	return a
}

// lead returns the first coefficient of a as a polynomial in the variables before v, which is not 0.
func (a image) lead(v int) line {
	var out line
	for _, c := range a.lines(v) {
		out = c
		break
	}
	return out
}

// at returns a with the number whose powers are given in place of v, which is the last variable.
func (p field) at(a image, v int, powers line) image {
	var out image
	for _, x := range a {
		c := p.mul(x.c, powers[x.e[v]])
		x.e[v] = 0
		if last := len(out) - 1; last >= 0 && out[last].e == x.e {
			out[last].c = p.add(out[last].c, c)
		} else {
			out = append(out, entry{x.e, c})
		}
	}
	return slices.DeleteFunc(out, func(x entry) bool { return x.c == 0 })
}

// primitive returns the greatest common divisor of the coefficients of a as a polynomial in the variables before v, and the quotient of a and it.
func (p field) primitive(a image, v int) (line, image) {
	var g line
	for _, c := range a.lines(v) {
		if g = p.common(c, g); len(g) == 1 {
			return g, a
		}
	}
	var out image
	for e, c := range a.lines(v) {
		out = out.put(e, p.over(c, g), v)
	}
	return g, out
}

// spread returns the product of a and c, a polynomial in v.
func (p field) spread(a image, c line, v int) image {
	if len(c) == 1 && c[0] == 1 {
		return a
	}
	var out image
	for e, x := range a.lines(v) {
		out = out.put(e, p.times(x, c), v)
	}
	return out
}
