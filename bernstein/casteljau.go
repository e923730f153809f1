package bernstein

import (
	"slices"

	"brepkernel/api"
	"brepkernel/numbers"
	"brepkernel/rational"
)

// Eval returns the value.
func Eval(p api.Poly, t api.Rat) api.Rat {
	if !permitted(p) {
		return api.Rat{}
	}
	c, scale := numbers.Whole(p)
	up, down, both := ratio(t)
	scheme(c, up, down)
	n := len(p) - 1
	return numbers.Over(c[0], geometric(scale, both, n)[n])
}

// Split returns the two parts of a polynomial, each on [0, 1].
func Split(p api.Poly, t api.Rat) (api.Poly, api.Poly) {
	if !permitted(p) {
		return nil, nil
	}
	n := len(p) - 1
	upper, scale := numbers.Whole(p)
	up, down, both := ratio(t)
	lower := scheme(upper, up, down)
	scales := geometric(scale, both, n)
	return build(n, func(i int) api.Rat { return numbers.Over(lower[i], scales[i]) }),
		build(n, func(i int) api.Rat { return numbers.Over(upper[i], scales[n-i]) })
}

// ratio returns integers up, down and their sum, which is positive, so that t is
// up divided by the sum.
func ratio(t api.Rat) (up, down, both api.Rat) {
	both = numbers.Denominator(t)
	up = rational.Mul(t, both)
	return up, rational.Sub(both, up), both
}

// scheme is de Casteljau's at t = up / (up + down), without the divisions. It
// returns the coefficients from 0 to t, and leaves those from t to 1 in c. Each
// step multiplies by up + down: the coefficient i is multiplied i times in the
// first list, and n - i times in c.
func scheme(c []api.Rat, up, down api.Rat) []api.Rat {
	n := len(c) - 1
	lower := []api.Rat{c[0]}
	for step := range n {
		for i := range n - step {
			c[i] = rational.Add(rational.Mul(down, c[i]), rational.Mul(up, c[i+1]))
		}
		lower = append(lower, c[0])
	}
	return lower
}

// geometric returns the first number, and n more, each of which is the one before
// it times the factor.
func geometric(first, factor api.Rat, n int) []api.Rat {
	out := []api.Rat{first}
	for i := range n {
		out = append(out, rational.Mul(out[i], factor))
	}
	return out
}

// Part returns the part between a and b, on [0, 1].
//
// The part from a to 1 is cut once more, where b is in it. If a is 1, that part is
// a single point: then the polynomial is mirrored, which makes a 0.
func Part(p api.Poly, a, b api.Rat) api.Poly {
	if !permitted(p) {
		return nil
	}
	if one := rational.Int(1); rational.Same(a, one) {
		p, a, b = mirrored(p), api.Rat{}, rational.Sub(one, b)
	}
	n := len(p) - 1
	c, scale := numbers.Whole(p)
	ends, both := numbers.Whole([]api.Rat{a, b})
	rest := rational.Sub(both, ends[0])
	scheme(c, ends[0], rest)
	factors := geometric(rational.Int(1), both, n)
	for i := range c {
		c[i] = rational.Mul(c[i], factors[i])
	}
	lower := scheme(c, rational.Sub(ends[1], ends[0]), rational.Sub(both, ends[1]))
	scales := geometric(rational.Mul(scale, factors[n]), rest, n)
	return build(n, func(i int) api.Rat { return numbers.Over(lower[i], scales[i]) })
}

// mirrored returns p(1 - x). It has the limbs of p.
func mirrored(p api.Poly) api.Poly {
	out := slices.Clone(p)
	slices.Reverse(out)
	return out
}
