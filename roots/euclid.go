package roots

import (
	"iter"

	"brepkernel/api"
	"brepkernel/bernstein"
	"brepkernel/numbers"
	"brepkernel/rational"
)

// Divide returns the quotient and the rest.
func Divide(p, q api.Poly) (api.Poly, api.Poly, api.Errno) {
	switch {
	case !bernstein.Valid(p) || !bernstein.Valid(q):
		return nil, nil, api.ErrArg
	case bernstein.Zero(q):
		return nil, nil, api.ErrZero
	}
	quotient, rest := divide(powers(p), powers(q))
	return poly(quotient), poly(rest), api.OK
}

// Gcd returns the greatest common divisor.
func Gcd(p, q api.Poly) api.Poly {
	if !bernstein.Valid(p) || !bernstein.Valid(q) {
		return nil
	}
	_, f := primitive(powers(p))
	_, g := primitive(powers(q))
	return poly(monic(common(f, g)))
}

// SquareFree returns the polynomial with the same roots, each of them simple.
func SquareFree(p api.Poly) (api.Poly, api.Errno) {
	f, e := whole(p)
	if e != api.OK {
		return nil, e
	}
	layer, _ := peel(f)
	return poly(monic(layer)), api.OK
}

// Sturm returns the Sturm sequence.
func Sturm(p api.Poly) ([]api.Poly, api.Errno) {
	f, e := whole(p)
	if e != api.OK {
		return nil, e
	}
	layer, _ := peel(f)
	free := monic(layer)
	var out []api.Poly
	for factor, c := range sequence(free, slope(free)) {
		out = append(out, bernstein.Scale(factor, poly(c)))
	}
	return out, api.OK
}

// whole returns a primitive multiple of a polynomial, or an error if it is 0 or not
// valid.
func whole(p api.Poly) ([]api.Rat, api.Errno) {
	if !bernstein.Valid(p) {
		return nil, api.ErrArg
	}
	_, f := primitive(powers(p))
	if len(f) == 0 {
		return nil, api.ErrZero
	}
	return f, api.OK
}

// sequence yields f and g, and then always the rest of the one before the last
// divided by the last one, with the opposite sign, as long as it is not 0: each of
// them as a number times a primitive polynomial, because the numbers become long.
// The degree of g is at most that of f.
func sequence(f, g []api.Rat) iter.Seq2[api.Rat, []api.Rat] {
	return func(yield func(api.Rat, []api.Rat) bool) {
		a, f := primitive(f)
		b, g := primitive(g)
		for len(f) > 0 && yield(a, f) {
			factor, rest := oppositeRest(f, g)
			a, b = b, rational.Mul(a, factor)
			f, g = g, rest
		}
	}
}

// oppositeRest returns the rest of f divided by g with the opposite sign, as a number
// times a primitive polynomial; 0 if g is 0. Both are primitive.
//
// f is multiplied by as many powers of the highest coefficient of g as the division
// has steps, so that it meets no fractions.
func oppositeRest(f, g []api.Rat) (api.Rat, []api.Rat) {
	if len(g) == 0 {
		return api.Rat{}, nil
	}
	times := rational.Int(1)
	for range len(f) - len(g) + 1 {
		times = rational.Mul(times, last(g))
	}
	_, rest := divide(scaled(times, f), g)
	content, rest := primitive(rest)
	return rational.Neg(numbers.Over(content, times)), rest
}
