package bernstein

import (
	"brepkernel/api"
	"brepkernel/numbers"
	"brepkernel/rational"
)

// ToPowers returns the coefficients of the powers.
//
// That of x^k is the difference of the order k of the first coefficients, times a
// binomial coefficient.
func ToPowers(p api.Poly) []api.Rat {
	if !permitted(p) {
		return nil
	}
	n := len(p) - 1
	c, scale := numbers.Whole(p)
	for order := range n {
		for i := n; i > order; i-- {
			c[i] = rational.Sub(c[i], c[i-1])
		}
	}
	weights := numbers.Binomials(n)
	return build(n, func(i int) api.Rat { return numbers.Over(rational.Mul(c[i], weights[i]), scale) })
}

// FromPowers returns the polynomial with coefficients of powers.
//
// It takes the steps of ToPowers back.
func FromPowers(c []api.Rat) (api.Poly, api.Errno) {
	if !permitted(c) {
		return nil, api.ErrSize
	}
	n := len(c) - 1
	weights := numbers.Binomials(n)
	sums, scale := numbers.Whole(build(n, func(i int) api.Rat { return numbers.Over(c[i], weights[i]) }))
	for order := n; order > 0; order-- {
		for i := order; i <= n; i++ {
			sums[i] = rational.Add(sums[i], sums[i-1])
		}
	}
	return build(n, func(i int) api.Rat { return numbers.Over(sums[i], scale) }), api.OK
}

// Trim returns the same polynomial with the least degree.
func Trim(p api.Poly) api.Poly {
	c := ToPowers(p)
	n := len(c)
	for n > 1 && rational.Sign(c[n-1]) == 0 {
		n--
	}
	out, _ := FromPowers(c[:n])
	return out
}
