package bernstein

import (
	"brepkernel/api"
	"brepkernel/numbers"
	"brepkernel/rational"
)

// Elevate returns the same polynomial with a greater degree.
//
// It is the product with the number 1 as a polynomial of the missing degree.
func Elevate(p api.Poly, n int) (api.Poly, api.Errno) {
	degree := len(p) - 1
	if n < degree || n > api.MaxPoly {
		return nil, api.ErrRange
	}
	return Mul(p, build(n-degree, func(int) api.Rat { return rational.Int(1) }))
}

// Add returns the sum.
func Add(p, q api.Poly) api.Poly {
	return pairwise(p, q, rational.Add)
}

// Sub returns the difference.
func Sub(p, q api.Poly) api.Poly {
	return pairwise(p, q, rational.Sub)
}

// pairwise returns the polynomial with f of the coefficients, after one of both
// polynomials has got the degree of the other one. That fails only if one of them
// is not valid.
func pairwise(p, q api.Poly, f func(a, b api.Rat) api.Rat) api.Poly {
	if len(p) < len(q) {
		p, _ = Elevate(p, len(q)-1)
	} else if len(p) > len(q) {
		q, _ = Elevate(q, len(p)-1)
	}
	if len(p) != len(q) {
		return nil
	}
	return build(len(p)-1, func(i int) api.Rat { return f(p[i], q[i]) })
}

// Mul returns the product.
//
// Coefficients that are multiplied by their binomial coefficients have the
// products of polynomials in powers.
func Mul(p, q api.Poly) (api.Poly, api.Errno) {
	n := len(p) - 1 + len(q) - 1
	switch {
	case len(p) == 0 || len(q) == 0:
		return nil, api.ErrArg
	case n > api.MaxPoly:
		return nil, api.ErrSize
	}
	a, scaleA := weighted(p)
	b, scaleB := weighted(q)
	sums := make([]api.Rat, n+1)
	for i := range a {
		for j := range b {
			sums[i+j] = rational.Add(sums[i+j], rational.Mul(a[i], b[j]))
		}
	}
	scale, weights := rational.Mul(scaleA, scaleB), numbers.Binomials(n)
	return build(n, func(i int) api.Rat { return numbers.Over(sums[i], rational.Mul(scale, weights[i])) }), api.OK
}

// weighted returns the coefficients times their binomial coefficients, as integers
// over a denominator.
func weighted(p api.Poly) ([]api.Rat, api.Rat) {
	c, scale := numbers.Whole(p)
	weights := numbers.Binomials(len(p) - 1)
	for i := range c {
		c[i] = rational.Mul(c[i], weights[i])
	}
	return c, scale
}

// Scale returns a multiple.
func Scale(r api.Rat, p api.Poly) api.Poly {
	return build(len(p)-1, func(i int) api.Rat { return rational.Mul(r, p[i]) })
}

// Diff returns the derivative.
func Diff(p api.Poly) api.Poly {
	n := len(p) - 1
	if n < 1 {
		return make(api.Poly, len(p))
	}
	degree := rational.Int(int64(n))
	return build(n-1, func(i int) api.Rat { return rational.Mul(degree, rational.Sub(p[i+1], p[i])) })
}
