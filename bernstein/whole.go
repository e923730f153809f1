package bernstein

import (
	"brepkernel/api"
	"brepkernel/rational"
)

// Sums and products of fractions are brought to lowest terms each time, which is
// slow where there are many. So the functions of this package compute with
// integers over one denominator, and divide by it in the end.

// whole returns integers and a denominator, over which they are the numbers. It
// is the least one.
func whole(c []api.Rat) ([]api.Rat, api.Rat) {
	scale := rational.Int(1)
	for _, r := range c {
		scale = rational.Mul(scale, denominator(rational.Mul(scale, r)))
	}
	out := make([]api.Rat, len(c))
	for i, r := range c {
		out[i] = rational.Mul(scale, r)
	}
	return out, scale
}

// denominator returns that of a number. It has the limbs of the number.
func denominator(r api.Rat) api.Rat {
	if len(r.Den) == 0 {
		return rational.Int(1)
	}
	return api.Rat{Num: r.Den}
}

// over returns r / d. Only numbers that are not valid lead to a d of 0.
func over(r, d api.Rat) api.Rat {
	q, _ := rational.Quo(r, d)
	return q
}

// geometric returns the first number, and n more, each of which is the one before
// it times the factor.
func geometric(first, factor api.Rat, n int) []api.Rat {
	out := []api.Rat{first}
	for i := range n {
		out = append(out, rational.Mul(out[i], factor))
	}
	return out
}

// binomials returns the row n of Pascal's triangle. Up to api.MaxPoly, its
// numbers are far from the greatest int64.
func binomials(n int) []api.Rat {
	row := []int64{1}
	for range n {
		row = append(row, 1)
		for i := len(row) - 2; i > 0; i-- {
			row[i] += row[i-1]
		}
	}
	return build(n, func(i int) api.Rat { return rational.Int(row[i]) })
}
