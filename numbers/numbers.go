// Package numbers is what several layers need to compute with many numbers.
//
// Sums and products of fractions are brought to lowest terms each time, which is
// slow where there are many. So the layers compute with integers over one
// denominator, and divide by it in the end.
package numbers

import (
	"slices"

	"brepkernel/api"
	"brepkernel/rational"
)

// Copy returns a number with limbs of its own.
func Copy(r api.Rat) api.Rat {
	return api.Rat{Neg: r.Neg, Num: slices.Clone(r.Num), Den: slices.Clone(r.Den)}
}

// CopyPole returns a pole with limbs of its own.
func CopyPole(p api.Pole) api.Pole {
	out := api.Pole{W: Copy(p.W)}
	for i, r := range p.P {
		out.P[i] = Copy(r)
	}
	return out
}

// Each returns the list of what f makes of the elements.
func Each[T, U any](list []T, f func(x T) U) []U {
	out := make([]U, len(list))
	for i, x := range list {
		out[i] = f(x)
	}
	return out
}

// Whole returns integers and a denominator, over which they are the numbers. It
// is the least one.
func Whole(c []api.Rat) ([]api.Rat, api.Rat) {
	scale := rational.Int(1)
	for _, r := range c {
		scale = rational.Mul(scale, Denominator(rational.Mul(scale, r)))
	}
	out := make([]api.Rat, len(c))
	for i, r := range c {
		out[i] = rational.Mul(scale, r)
	}
	return out, scale
}

// Denominator returns that of a number.
func Denominator(r api.Rat) api.Rat {
	if len(r.Den) == 0 {
		return rational.Int(1)
	}
	return rational.Abs(api.Rat{Num: r.Den})
}

// Over returns r / d, or 0 if d is 0.
func Over(r, d api.Rat) api.Rat {
	q, _ := rational.Quo(r, d)
	return q
}

// Share returns how much of the way from low to high lies before t, or 0 if there is
// no way.
func Share(low, high, t api.Rat) api.Rat {
	return Over(rational.Sub(t, low), rational.Sub(high, low))
}

// Binomials returns the row n of Pascal's triangle. Up to api.MaxPoly, its numbers
// are far from the greatest int64.
func Binomials(n int) []api.Rat {
	row := []int64{1}
	for range n {
		row = append(row, 1)
		for i := len(row) - 2; i > 0; i-- {
			row[i] += row[i-1]
		}
	}
	out := make([]api.Rat, len(row))
	for i, x := range row {
		out[i] = rational.Int(x)
	}
	return out
}
