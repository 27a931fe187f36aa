package rational_test

import (
	"strings"
	"testing"

	"quadrature/api"
	"quadrature/integer"
	"quadrature/rational"
)

func TestText(t *testing.T) {
	for _, x := range []struct{ n, d, text string }{
		{"0", "1", "0"}, {"3", "1", "3"}, {"-3", "1", "-3"}, {"1", "2", "1/2"}, {"-1", "2", "-1/2"}, {"1", "-2", "-1/2"}, {"-6", "4", "-3/2"},
		{"11", "10", "11/10"}, {"1", "4294967297", "1/4294967297"}, {"18446744073709551616", "3", "18446744073709551616/3"},
		{"-18446744073709551616", "79228162514264337593543950337", "-18446744073709551616/79228162514264337593543950337"},
	} {
		a, err := rational.Of(whole(t, x.n), whole(t, x.d))
		if err != api.OK || rational.Text(a) != x.text {
			t.Errorf("Text(%s/%s) = %q, %v", x.n, x.d, rational.Text(a), err)
		}
		back, err := rational.Read(x.text)
		if err != api.OK || !identical(back.Num, a.Num) || !identical(back.Den, a.Den) {
			t.Errorf("Read(%q) = %v, %v", x.text, back, err)
		}
	}
}

func TestRead(t *testing.T) {
	for _, x := range []struct{ s, num, den string }{
		{"0", "0", "1"}, {"7", "7", "1"}, {"-7", "-7", "1"}, {"2/3", "2", "3"}, {"-2/3", "-2", "3"},
		{"4/6", "2", "3"}, {"-4/6", "-2", "3"}, {"6/3", "2", "1"}, {"-6/3", "-2", "1"}, {"5/5", "1", "1"}, {"3/1", "3", "1"}, {"-3/1", "-3", "1"},
		{"0/1", "0", "1"}, {"0/7", "0", "1"}, {"0/18446744073709551616", "0", "1"},
		{"36893488147419103232/18446744073709551616", "2", "1"}, {"10/100", "1", "10"},
	} {
		a, err := rational.Read(x.s)
		if err != api.OK {
			t.Errorf("Read(%q): %v", x.s, err)
		}
		mustBe(t, "Read("+x.s+")", a, x.num, x.den)
	}
}

func TestReadRefusesOtherNotations(t *testing.T) {
	for _, s := range []string{
		"", "-", "/", "-/", "//", "1/", "/1", "-/1", "-1/", "1//2", "/1/2", "1/2/", "1/2/3", "1/1/1",
		"1/-2", "2/-4", "-1/-2", "1/+2", "+1/2", "+1", "1/0", "0/0", "-1/0", "1/-0", "1/00",
		"-0", "-0/1", "-0/7", "007", "00", "00/1", "01/2", "-01/2", "1/02", "1/2-", "1-/2", "--1/2", "1/--2",
		" 1/2", "1/2 ", "1 /2", "1/ 2", "1 2", "1/2\n", "\x00", "1/2\x00", "1.5", "1e3", "1_0/2", "0x1/2", "a", "a/2", "1/a", "1:2", "1\\2", "1.2", "1/.", "1∕2", "½", "1/２", "١/2", "\xff",
		"1/" + strings.Repeat("0", 1998), "0" + strings.Repeat("1", 1999), strings.Repeat("9", 1998) + "/x", strings.Repeat("/", 2000),
	} {
		a, err := rational.Read(s)
		mustFail(t, "Read("+s+")", a, err, api.ErrForm)
	}
}

func TestReadAtTheLimit(t *testing.T) {
	for _, s := range []string{
		strings.Repeat("9", 2000), "-" + strings.Repeat("9", 1999), "1/" + strings.Repeat("9", 1998), "-1/1" + strings.Repeat("0", 1996),
		strings.Repeat("9", 1998) + "/2", strings.Repeat("2", 999) + "/1" + strings.Repeat("0", 998) + "3",
	} {
		if len(s) != 2000 {
			t.Fatalf("the text has %d bytes", len(s))
		}
		a, err := rational.Read(s)
		if err != api.OK || !rational.Valid(a) || rational.Text(a) != s {
			t.Errorf("%d bytes: %v, %v", len(s), a, err)
		}
	}
	// What has to be shortened counts as it is written.
	long := "2" + strings.Repeat("0", 998) + "/1" + strings.Repeat("0", 999)
	a, err := rational.Read(long)
	if err != api.OK || len(long) != 2000 {
		t.Errorf("%d bytes: %v", len(long), err)
	}
	mustBe(t, "2000 bytes that denote 1/5", a, "1", "5")
}

func TestReadRefusesLongTexts(t *testing.T) {
	for _, s := range []string{
		strings.Repeat("9", 2001), "-" + strings.Repeat("9", 2000), "1/" + strings.Repeat("9", 1999), strings.Repeat("9", 1999) + "/2",
		strings.Repeat("2", 1000) + "/" + strings.Repeat("3", 1000), strings.Repeat("x", 2001), strings.Repeat("/", 2001), "1/0" + strings.Repeat("0", 1998),
		strings.Repeat("9", 2001) + "/" + strings.Repeat("9", 2001), strings.Repeat("9", 100000),
	} {
		a, err := rational.Read(s)
		mustFail(t, "Read of a long text", a, err, api.ErrBig)
	}
}

func TestTextIsNotLimited(t *testing.T) {
	n := whole(t, strings.Repeat("9", 1500))
	a, err := rational.Of(n, integer.Add(n, integer.Of(1)))
	want := strings.Repeat("9", 1500) + "/1" + strings.Repeat("0", 1500)
	if err != api.OK || rational.Text(a) != want {
		t.Fatalf("Text = %q, %v", rational.Text(a), err)
	}
	b, err := rational.Read(want)
	mustFail(t, "Read of a long Text", b, err, api.ErrBig)
}

func TestNotationIsUnique(t *testing.T) {
	// Every text of up to five bytes from this alphabet is either refused, or equal to the Text of what is read after the fraction has been shortened.
	const alphabet = "-/0126"
	var attempt func(prefix string)
	attempt = func(prefix string) {
		a, err := rational.Read(prefix)
		switch {
		case err == api.OK && (!rational.Valid(a) || !denotes(prefix, a)):
			t.Errorf("Read(%q) = %v", prefix, a)
		case err == api.OK && !isForm(prefix):
			t.Errorf("Read(%q) = %v, want ErrForm", prefix, a)
		case err != api.OK && (err != api.ErrForm || isForm(prefix) || !isZeroValue(a)):
			t.Errorf("Read(%q) = %v, %v", prefix, a, err)
		}
		for i := 0; i < len(alphabet) && len(prefix) < 5; i++ {
			attempt(prefix + alphabet[i:i+1])
		}
	}
	attempt("")
}

// isForm reports whether s has one of the two forms of the chapter.
func isForm(s string) bool {
	parts := strings.Split(s, "/")
	if _, err := integer.Read(parts[0]); err != api.OK || len(parts) > 2 {
		return false
	}
	if len(parts) == 1 {
		return true
	}
	d, err := integer.Read(parts[1])
	return err == api.OK && integer.Sign(d) > 0
}

// denotes reports whether a is the number that the standard library reads from s.
func denotes(s string, a api.Rat) bool {
	want, ok := toBigText(s)
	return ok && toBig(a).Cmp(want) == 0
}
