package frac

import "quadrature/api"

// attempt returns the result of f, or the zero value and e if that is an error.
func attempt[T any](e api.Errno, f func() T) (T, api.Errno) {
	if e != api.OK {
		var none T
		return none, e
	}
	return f(), api.OK
}

// divisorError returns the error of a division by d.
func divisorError(d api.MPoly) api.Errno {
	if len(d) == 0 {
		return api.ErrZero
	}
	return api.OK
}

// powerError returns the error of the n-th power of a.
func powerError(a api.Frac, n int) api.Errno {
	switch {
	case n < -api.MaxPow || n > api.MaxPow:
		return api.ErrArg
	case n < 0:
		return divisorError(a.N)
	}
	return api.OK
}
