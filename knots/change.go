package knots

import (
	"slices"

	"brepkernel/api"
	"brepkernel/numbers"
	"brepkernel/rational"
)

// Insert returns the knots with a further one.
func Insert(k []api.Rat, t api.Rat) []api.Rat {
	at := slices.IndexFunc(k, func(r api.Rat) bool { return rational.Cmp(r, t) > 0 })
	if at < 0 {
		at = len(k)
	}
	return slices.Insert(numbers.Each(k, numbers.Copy), at, numbers.Copy(t))
}

// Greville returns the abscissas of the poles.
func Greville(k []api.Rat, degree int) []api.Rat {
	if !permitted(degree) {
		return nil
	}
	share, _ := rational.Make(1, int64(degree))
	var out []api.Rat
	for i := range Poles(k, degree) {
		var sum api.Rat
		for _, r := range k[i+1 : i+1+degree] {
			sum = rational.Add(sum, r)
		}
		out = append(out, rational.Mul(sum, share))
	}
	return out
}

// Affine returns the knots from a to b.
func Affine(k []api.Rat, a, b api.Rat) ([]api.Rat, api.Errno) {
	if rational.Cmp(a, b) >= 0 {
		return nil, api.ErrRange
	}
	first, last := ends(k)
	scale, e := rational.Quo(rational.Sub(b, a), rational.Sub(last, first))
	if e != api.OK {
		return nil, api.ErrKnots
	}
	return numbers.Each(k, func(t api.Rat) api.Rat {
		return rational.Add(a, rational.Mul(rational.Sub(t, first), scale))
	}), api.OK
}

// Mirror returns the knots in the other direction.
func Mirror(k []api.Rat) []api.Rat {
	first, last := ends(k)
	sum := rational.Add(first, last)
	out := numbers.Each(k, func(t api.Rat) api.Rat { return rational.Sub(sum, t) })
	slices.Reverse(out)
	return out
}

// ends returns the first and the last number, or twice 0 if there are none.
func ends(k []api.Rat) (first, last api.Rat) {
	if len(k) == 0 {
		return api.Rat{}, api.Rat{}
	}
	return k[0], k[len(k)-1]
}
