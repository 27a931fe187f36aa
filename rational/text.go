package rational

import (
	"strings"

	"quadrature/api"
	"quadrature/integer"
)

// Text returns the numerator of a, and after a "/" its denominator, if that is not 1.
func Text(a api.Rat) string {
	if isOne(a.Den) {
		return integer.Text(a.Num)
	}
	return integer.Text(a.Num) + "/" + integer.Text(a.Den)
}

// Read returns the number that s denotes, an integer or a fraction, which need not be in lowest terms.
func Read(s string) (api.Rat, api.Errno) {
	if len(s) > api.MaxText {
		return api.Rat{}, api.ErrBig
	}
	top, bottom, divided := strings.Cut(s, "/")
	if !divided {
		bottom = "1"
	}
	// The parts are not too long: these errors are about the form.
	n, err := integer.Read(top)
	if err != api.OK {
		return api.Rat{}, err
	}
	d, err := integer.Read(bottom)
	if err != api.OK {
		return api.Rat{}, err
	}
	if integer.Sign(d) <= 0 {
		return api.Rat{}, api.ErrForm
	}
	return Of(n, d)
}
