package roots

import (
	"slices"

	"brepkernel/api"
	"brepkernel/bernstein"
	"brepkernel/numbers"
	"brepkernel/rational"
)

// Inside this package a polynomial is often the list of its coefficients of 1, x,
// x^2, .., the last of which is not 0; the polynomial 0 is the empty list. It is
// primitive if its coefficients are integers without a common divisor. Fractions
// are slow to compute with, and a factor changes no root.

// powers returns the coefficients of the powers.
func powers(p api.Poly) []api.Rat {
	return stripped(bernstein.ToPowers(p))
}

// poly returns the polynomial with these coefficients.
func poly(c []api.Rat) api.Poly {
	if len(c) == 0 {
		return make(api.Poly, 1)
	}
	out, _ := bernstein.FromPowers(c)
	return out
}

// stripped returns a list without the highest coefficients that are 0.
func stripped(c []api.Rat) []api.Rat {
	n := len(c)
	for n > 0 && rational.Sign(c[n-1]) == 0 {
		n--
	}
	return c[:n]
}

// scaled returns the coefficients times r.
func scaled(r api.Rat, c []api.Rat) []api.Rat {
	out := make([]api.Rat, len(c))
	for i, x := range c {
		out[i] = rational.Mul(r, x)
	}
	return out
}

// monic returns the multiple that has the highest coefficient 1.
func monic(c []api.Rat) []api.Rat {
	if len(c) == 0 {
		return nil
	}
	return scaled(numbers.Over(rational.Int(1), last(c)), c)
}

// primitive returns a polynomial as a positive number times a primitive one.
func primitive(c []api.Rat) (api.Rat, []api.Rat) {
	if len(c) == 0 {
		return api.Rat{}, nil
	}
	var content api.Rat
	for _, x := range c {
		content = divisor(content, x)
	}
	return content, scaled(numbers.Over(rational.Int(1), content), c)
}

// divisor returns the greatest number of which a and b are multiples by integers.
func divisor(a, b api.Rat) api.Rat {
	if rational.Sign(a) == 0 {
		return rational.Abs(b)
	}
	ratio := numbers.Over(b, a)
	return numbers.Over(rational.Abs(a), numbers.Denominator(ratio))
}

// twoTo returns 2^n.
func twoTo(n int) api.Rat {
	return api.Rat{Num: append(make([]uint32, n/32), 1<<(n%32))}
}

// last returns the highest coefficient of a polynomial that is not 0.
func last(c []api.Rat) api.Rat {
	return c[len(c)-1]
}

// slope returns the derivative.
func slope(c []api.Rat) []api.Rat {
	var out []api.Rat
	for i, x := range c {
		if i > 0 {
			out = append(out, rational.Mul(rational.Int(int64(i)), x))
		}
	}
	return out
}

// divide returns the quotient and the rest of f divided by g, which is not 0.
func divide(f, g []api.Rat) (quotient, rest []api.Rat) {
	degree := len(g) - 1
	rest = slices.Clone(f)
	quotient = make([]api.Rat, max(0, len(f)-degree))
	for k := range slices.Backward(quotient) {
		times := numbers.Over(rest[k+degree], last(g))
		quotient[k] = times
		for i, x := range g {
			rest[k+i] = rational.Sub(rest[k+i], rational.Mul(times, x))
		}
	}
	return quotient, stripped(rest)
}
