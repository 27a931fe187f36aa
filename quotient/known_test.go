package quotient_test

import (
	"math/rand"
	"slices"
	"testing"

	"quadrature/api"
	"quadrature/poly"
	"quadrature/quotient"
	"quadrature/rational"
)

// surd is the number u + v sqrt(s), where s is not the square of a rational number.
type surd struct {
	u, v api.Rat
	s    int64
}

// plus returns x + c.
func (x surd) plus(c api.Rat) surd { return surd{rational.Add(x.u, c), x.v, x.s} }

// times returns x y, for y with the same s.
func (x surd) times(y surd) surd {
	s := rational.Whole(x.s)
	u := rational.Add(rational.Mul(x.u, y.u), rational.Mul(s, rational.Mul(x.v, y.v)))
	v := rational.Add(rational.Mul(x.u, y.v), rational.Mul(x.v, y.u))
	return surd{u, v, x.s}
}

// value returns the value of a at x.
func (x surd) value(a api.Poly) surd {
	zero := rational.Whole(0)
	y := surd{zero, zero, x.s}
	for _, c := range slices.Backward(a) {
		y = y.times(x).plus(c)
	}
	return y
}

// simple reports whether x is a rational number.
func (x surd) simple() bool { return rational.Sign(x.v) == 0 }

// trace returns the sum of x and its conjugate.
func (x surd) trace() api.Rat { return rational.Add(x.u, x.u) }

// norm returns the product of x and its conjugate.
func (x surd) norm() api.Rat { return x.times(surd{x.u, rational.Neg(x.v), x.s}).u }

// minimal returns the monic polynomial of least degree whose root is x.
func (x surd) minimal() api.Poly {
	one := rational.Whole(1)
	if x.simple() {
		return api.Poly{rational.Neg(x.u), one}
	}
	return api.Poly{x.norm(), rational.Neg(x.trace()), one}
}

// known is a modulus with its roots. Where a root is not rational, its conjugate is another root, which is not listed.
type known struct {
	q     api.Poly
	roots []surd
}

// construct returns a product of different linear and quadratic factors, which is monic or not.
func construct(r *rand.Rand, most int) known {
	k := known{q: api.Poly{rational.Whole(1)}}
	for range 1 + r.Intn(most) {
		x := surd{coefficient(r), rational.Whole(int64(r.Intn(2))), []int64{2, 3, 5, -1, -3}[r.Intn(5)]}
		if slices.ContainsFunc(k.roots, func(y surd) bool { return poly.Equal(x.minimal(), y.minimal()) }) {
			continue
		}
		k.q, k.roots = poly.Mul(k.q, x.minimal()), append(k.roots, x)
	}
	if r.Intn(2) == 0 {
		k.q = poly.Scale(k.q, nonzero(r))
	}
	return k
}

// through returns the polynomial of least degree that has the values y at the numbers x.
func through(x, y []api.Rat) api.Poly {
	var p api.Poly
	product := api.Poly{rational.Whole(1)}
	for i, c := range x {
		// A multiple of the product of the factors so far changes the next value alone.
		f, _ := rational.Div(rational.Sub(y[i], poly.Eval(p, c)), poly.Eval(product, c))
		p = poly.Add(p, poly.Scale(product, f))
		product = poly.Mul(product, api.Poly{rational.Neg(c), rational.Whole(1)})
	}
	return p
}

// check compares all functions with what the values of a at the roots tell.
func (k known) check(t *testing.T, a api.Poly) {
	t.Helper()
	sum, product, minimal, zero := rational.Whole(0), rational.Whole(1), api.Poly{rational.Whole(1)}, false
	var factors []api.Poly
	for _, x := range k.roots {
		y := x.value(a)
		zero = zero || y.simple() && rational.Sign(y.u) == 0
		if x.simple() {
			sum, product = rational.Add(sum, y.u), rational.Mul(product, y.u)
		} else {
			sum, product = rational.Add(sum, y.trace()), rational.Mul(product, y.norm())
		}
		if f := y.minimal(); !slices.ContainsFunc(factors, func(g api.Poly) bool { return poly.Equal(f, g) }) {
			factors, minimal = append(factors, f), poly.Mul(minimal, f)
		}
	}
	call := " of (" + text(a) + ") modulo (" + text(k.q) + ")"
	mustBeNumber(t, "Trace"+call, quotient.Trace(k.q, a), rational.Text(sum))
	mustBeNumber(t, "Norm"+call, quotient.Norm(k.q, a), rational.Text(product))
	mustBe(t, "Minimal"+call, quotient.Minimal(k.q, a), text(minimal))
	if zero {
		mustNotInvert(t, k.q, a)
		return
	}
	s, err := quotient.Inv(k.q, a)
	for _, x := range k.roots {
		y := x.value(a).times(x.value(s))
		if err != api.OK || len(s) >= len(k.q) || !y.simple() || rational.Text(y.u) != "1" {
			t.Fatalf("Inv%s = %s, %v", call, text(s), err)
		}
	}
}

func TestValuesAtKnownRoots(t *testing.T) {
	r := rand.New(rand.NewSource(161))
	for range 500 {
		k := construct(r, 4)
		if !quotient.Valid(k.q) {
			t.Fatalf("%s is not valid", text(k.q))
		}
		k.check(t, sample(r, 7))
		k.check(t, poly.Mul(k.roots[0].minimal(), sample(r, 3)))
		k.check(t, api.Poly{rational.Whole(0), nonzero(r)})
		k.check(t, poly.Trim([]api.Rat{coefficient(r)}))
	}
}

func TestValuesThatAreTakenSeveralTimes(t *testing.T) {
	r := rand.New(rand.NewSource(162))
	for range 500 {
		k := construct(r, 7)
		k.roots = slices.DeleteFunc(k.roots, func(x surd) bool { return !x.simple() })
		if len(k.roots) == 0 {
			continue
		}
		k.q = api.Poly{nonzero(r)}
		few := []api.Rat{coefficient(r), coefficient(r)}
		var x, y []api.Rat
		for _, root := range k.roots {
			k.q = poly.Mul(k.q, root.minimal())
			x, y = append(x, root.u), append(y, few[r.Intn(2)])
		}
		a := through(x, y)
		k.check(t, a)
		k.check(t, poly.Add(a, poly.Mul(k.q, sample(r, 3))))
	}
}

func TestPowersOfKnownRoots(t *testing.T) {
	r := rand.New(rand.NewSource(163))
	for range 300 {
		k := construct(r, 4)
		sums := quotient.Power(k.q, 12)
		for i, s := range sums {
			want := rational.Whole(0)
			for _, x := range k.roots {
				y := surd{rational.Whole(1), rational.Whole(0), x.s}
				for range i {
					y = y.times(x)
				}
				if !x.simple() {
					y.u = y.trace()
				}
				want = rational.Add(want, y.u)
			}
			mustBeNumber(t, "a sum of powers of the roots of "+text(k.q), s, rational.Text(want))
		}
		if len(sums) != 12 {
			t.Fatalf("%d sums", len(sums))
		}
	}
}
