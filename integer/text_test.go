package integer_test

import (
	"strings"
	"testing"

	"quadrature/api"
	"quadrature/integer"
)

func TestNotationIsInverted(t *testing.T) {
	for _, s := range []string{
		"0", "1", "-1", "-7", "9", "10", "-10", "999999999", "1000000000", "-1000000000", "1000000001", "4294967295", "4294967296",
		"999999999999999999", "1000000000000000000", "100000000000000000000000000000000000001", "-9223372036854775808",
		"1" + strings.Repeat("0", 1999), strings.Repeat("9", 2000), "-" + strings.Repeat("9", 1999), "-1" + strings.Repeat("0", 1998),
	} {
		a, err := integer.Read(s)
		if err != api.OK || !integer.Valid(a) || integer.Text(a) != s {
			t.Errorf("Read(%q) = %s, %v", s, integer.Text(a), err)
		}
	}
	// All lengths, so that each number of groups of digits and each length of the first one occurs.
	digits := strings.Repeat("1020304050607080900000000000000000001", 60)
	for n := 1; n <= 2000; n++ {
		a, err := integer.Read(digits[:n])
		if err != api.OK || integer.Text(a) != digits[:n] {
			t.Fatalf("%d digits: %v", n, err)
		}
	}
}

func TestReadRefusesOtherNotations(t *testing.T) {
	for _, s := range []string{
		"", "-", "--", "--1", "-0", "-00", "00", "007", "-07", "+1", "+", "1 ", " 1", "1a", "a1", "1-", "1-1", "-1-", "0x10", "1_000", "1.0", "1e3", "1\n", "\x00", "/", ":", "1/", "1:",
		"١", "１", "\xff", strings.Repeat("0", 2000), "-" + strings.Repeat("0", 1999), strings.Repeat("9", 1999) + "x",
	} {
		if a, err := integer.Read(s); err != api.ErrForm || a.Neg || a.Mag != nil {
			t.Errorf("Read(%q) = %v, %v", s, a, err)
		}
	}
}

func TestReadRefusesLongTexts(t *testing.T) {
	for _, s := range []string{
		strings.Repeat("9", 2001), "-" + strings.Repeat("9", 2000), strings.Repeat("0", 2001), strings.Repeat("x", 2001), strings.Repeat("9", 100000),
	} {
		if a, err := integer.Read(s); err != api.ErrBig || a.Neg || a.Mag != nil {
			t.Errorf("%d bytes: %v, %v", len(s), a, err)
		}
	}
}

func TestTextOfLongIntegers(t *testing.T) {
	p := integer.Of(1)
	for range 20 {
		q, err := integer.Pow(integer.Of(10), 256)
		if err != api.OK {
			t.Fatal(err)
		}
		p = integer.Mul(p, q)
	}
	if s := integer.Text(integer.Neg(p)); s != "-1"+strings.Repeat("0", 5120) {
		t.Errorf("-10^5120 = %s", s)
	}
}
