package integer

// This file computes with absolute values: limbs to the base 2^32, the least significant one first. Its functions expect and return limbs without zeros at the end, unless they say otherwise, and do not modify their arguments.

// trim returns m without the zeros at its end.
func trim(m []uint32) []uint32 {
	n := len(m)
search:
	for n > 0 {
		switch m[n-1] {
		case 0:
			n--
		default:
			break search
		}
	}
	return m[:n]
}

// fromWord returns the limbs of w.
func fromWord(w uint64) []uint32 {
	return trim([]uint32{uint32(w), uint32(w >> 32)})
}

// toWord returns the value of at most two limbs.
func toWord(m []uint32) uint64 {
	return uint64(limb(m, 1))<<32 | uint64(limb(m, 0))
}

// limb returns the limb with the index i, which is 0 beyond the end of m.
func limb(m []uint32, i int) uint32 {
	if i < len(m) {
		return m[i]
	}
	return 0
}

// compare returns -1, 0 or 1 if a is less than, equal to, or greater than b.
func compare(a, b []uint32) int {
	if len(a) != len(b) {
		return order(len(a) < len(b))
	}
	for i := len(a) - 1; i >= 0; i-- {
		if a[i] != b[i] {
			return order(a[i] < b[i])
		}
	}
	return 0
}

// order returns the result of a comparison of different values.
func order(less bool) int {
	if less {
		return -1
	}
	return 1
}

// sum returns a + b.
func sum(a, b []uint32) []uint32 {
	if len(a) < len(b) {
		a, b = b, a
	}
	if len(b) == 0 {
		return a
	}
	out := make([]uint32, len(a)+1)
	var carry uint64
	for i, x := range b {
		carry += uint64(a[i]) + uint64(x)
		out[i] = uint32(carry)
		carry >>= 32
	}
	for i := len(b); i < len(a); i++ {
		carry += uint64(a[i])
		out[i] = uint32(carry)
		carry >>= 32
	}
	out[len(a)] = uint32(carry)
	return trim(out)
}

// difference returns a - b, for a >= b.
func difference(a, b []uint32) []uint32 {
	if len(b) == 0 {
		return a
	}
	out := make([]uint32, len(a))
	var borrow uint64
	for i, x := range b {
		d := uint64(a[i]) - uint64(x) - borrow
		out[i] = uint32(d)
		borrow = d >> 63
	}
	for i := len(b); i < len(a); i++ {
		d := uint64(a[i]) - borrow
		out[i] = uint32(d)
		borrow = d >> 63
	}
	return trim(out)
}

// product returns a b.
func product(a, b []uint32) []uint32 {
	if len(a) == 0 || len(b) == 0 {
		return nil
	}
	// The inner loop is the cheaper one: it runs over the longer factor.
	if len(a) > len(b) {
		a, b = b, a
	}
	out := make([]uint32, len(a)+len(b))
	for i := range len(a) {
		x, row := uint64(a[i]), out[i:i+len(b)+1]
		var carry uint64
		for j, y := range b {
			// At most (2^32 - 1)^2 + 2 (2^32 - 1) = 2^64 - 1: no overflow.
			carry += x*uint64(y) + uint64(row[j])
			row[j] = uint32(carry)
			carry >>= 32
		}
		row[len(b)] = uint32(carry)
	}
	return trim(out)
}
