package integer

import (
	"bytes"
	"slices"
	"strconv"

	"quadrature/api"
)

// Decimal digits are converted in groups: the largest power of 10 that fits in a limb has groupDigits zeros.
const (
	groupDigits = 9
	groupBase   = 1_000_000_000
)

// Text returns a in decimal digits, preceded by "-" if a is negative.
func Text(a api.Int) string {
	neg, m := parts(a)
	if len(m) == 0 {
		return "0"
	}
	rest := slices.Clone(m)
	// A number of n limbs has at most 10 n digits; the sign needs one more byte.
	buffer := bytes.Repeat([]byte{'0'}, 10*len(m)+1)
	at := len(buffer)
	for {
		digits := strconv.FormatUint(uint64(shorten(rest, groupBase)), 10)
		copy(buffer[at-len(digits):], digits)
		rest = trim(rest)
		if len(rest) == 0 {
			at -= len(digits)
			break
		}
		// The zeros at the beginning of a group are in the buffer already.
		at -= groupDigits
	}
	if neg {
		at--
		buffer[at] = '-'
	}
	return string(buffer[at:])
}

// Read returns the integer whose Text is s.
func Read(s string) (api.Int, api.Errno) {
	if len(s) > api.MaxText {
		return api.Int{}, api.ErrBig
	}
	digits, neg := s, false
	if len(s) > 0 && s[0] == '-' {
		digits, neg = s[1:], true
	}
	if !isNotation(digits) || neg && digits == "0" {
		return api.Int{}, api.ErrForm
	}
	return build(neg, fromDigits(digits)), api.OK
}

// isNotation reports whether s consists of decimal digits without superfluous zeros before them.
func isNotation(s string) bool {
	if len(s) == 0 || s[0] == '0' && len(s) > 1 {
		return false
	}
	for i := range len(s) {
		if s[i] < '0' || s[i] > '9' {
			return false
		}
	}
	return true
}

// fromDigits returns the value of a number of decimal digits.
func fromDigits(s string) []uint32 {
	// A group of digits adds less than a limb.
	m := make([]uint32, 0, len(s)/groupDigits+1)
	for len(s) > 0 {
		// The first group takes the digits that are left over by full groups.
		n := (len(s)-1)%groupDigits + 1
		group := uint64(0)
		for i := range n {
			group = 10*group + uint64(s[i]-'0')
		}
		m = lengthen(m, group)
		s = s[n:]
	}
	return trim(m)
}

// lengthen returns m times groupBase plus group, in the memory of m where it has room.
func lengthen(m []uint32, group uint64) []uint32 {
	for i, x := range m {
		group += uint64(x) * groupBase
		m[i] = uint32(group)
		group >>= 32
	}
	if group > 0 {
		m = append(m, uint32(group))
	}
	return m
}
