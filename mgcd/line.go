package mgcd

// line is a polynomial in one variable over a field: the coefficient of degree i has the index i, and the last one is not 0.
type line []uint64

// trim returns a without zeros at its end.
func trim(a line) line {
	for len(a) > 0 && a[len(a)-1] == 0 {
		a = a[:len(a)-1]
	}
	return a
}

// value returns the value of a at x.
func (p field) value(a line, x uint64) uint64 {
	var c uint64
	for i := len(a) - 1; i >= 0; i-- {
		c = p.add(p.mul(c, x), a[i])
	}
	return c
}

// powers returns the powers of x with the exponents below n.
func (p field) powers(x uint64, n int) line {
	out := make(line, n)
	c := uint64(1)
	for i := range out {
		out[i] = c
		c = p.mul(c, x)
	}
	return out
}

// scale returns c a, for c other than 0.
func (p field) scale(a line, c uint64) line {
	out := make(line, len(a))
	for i := range a {
		out[i] = p.mul(a[i], c)
	}
	return out
}

// accumulate adds c b to a, which is as long as b.
func (p field) accumulate(a, b line, c uint64) {
	for i, x := range b {
		a[i] = p.add(a[i], p.mul(x, c))
	}
}

// monic returns a divided by its leading coefficient, for a other than 0.
func (p field) monic(a line) line {
	if c := a[len(a)-1]; c != 1 {
		return p.scale(a, p.inverse(c))
	}
	return a
}

// times returns a b, for a and b other than 0.
func (p field) times(a, b line) line {
	out := make(line, len(a)+len(b)-1)
	for i, x := range a {
		p.accumulate(out[i:i+len(b)], b, x)
	}
	return out
}

// over returns a/b, where b divides a and has the leading coefficient 1.
func (p field) over(a, b line) line {
	rest := append(line{}, a...)
	last := len(b) - 1
	for i := len(rest) - 1; i >= last; i-- {
		for k := range last {
			rest[i-last+k] = p.sub(rest[i-last+k], p.mul(rest[i], b[k]))
		}
	}
	return rest[last:]
}

// common returns the greatest common divisor of a and b, which are not both 0, with the leading coefficient 1. It writes to both.
func (p field) common(a, b line) line {
	for len(b) > 0 {
		r, _ := p.reduce(a, b)
		a, b = b, r
	}
	return p.monic(a)
}

// resultant returns the resultant of a and b, which are not 0. It writes to both.
func (p field) resultant(a, b line) uint64 {
	c, divisor := uint64(1), uint64(1)
	for len(b) > 1 {
		m, n := len(a)-1, len(b)-1
		if m%2 == 1 && n%2 == 1 {
			c = p.sub(0, c)
		}
		r, factor := p.reduce(a, b)
		if len(r) == 0 {
			return 0
		}
		c = p.mul(c, p.power(b[n], uint64(m-len(r)+1)))
		divisor = p.mul(divisor, p.power(factor, uint64(n)))
		a, b = b, r
	}
	c = p.mul(c, p.power(b[0], uint64(len(a)-1)))
	return p.mul(c, p.inverse(divisor))
}

// reduce returns the remainder of a by b, which is not 0, multiplied by a number other than 0, and this number. It writes to a.
func (p field) reduce(a, b line) (line, uint64) {
	last := len(b) - 1
	if last == 0 {
		return nil, 1
	}
	lead, factor := b[last], uint64(1)
	for i := len(a) - 1; i >= last; i-- {
		// With each step, what is left of a is multiplied by the leading coefficient of b, because quotients are slow. This is put off for the coefficients that have not been reached.
		low := a[i-last : i]
		low[0] = p.mul(low[0], factor)
		if a[i] == 0 {
			continue
		}
		c := p.sub(0, a[i])
		for k := range low {
			low[k] = p.cross(low[k], lead, b[k], c)
		}
		factor = p.mul(factor, lead)
	}
	return trim(a[:min(last, len(a))]), factor
}
