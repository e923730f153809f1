package bezier

import (
	"slices"

	"brepkernel/api"
	"brepkernel/bernstein"
	"brepkernel/curve"
	"brepkernel/numbers"
	"brepkernel/rational"
	"brepkernel/span"
)

// slope returns the numerator n' w - n w' of the derivative of n / w, by the own
// parameter.
func slope(n, w api.Poly) api.Poly {
	rise, _ := bernstein.Mul(bernstein.Diff(n), w)
	fall, _ := bernstein.Mul(n, bernstein.Diff(w))
	return bernstein.Sub(rise, fall)
}

// Tangent returns the derivative.
func Tangent(c api.Curve, t api.Rat) (api.Point, api.Errno) {
	domain := curve.Domain(c)
	switch {
	case !fits(c):
		return api.Point{}, api.ErrArg
	case !span.Has(domain, t):
		return api.Point{}, api.ErrRange
	}
	x, forms := own(domain, t), Numerators(c)
	var values, slopes [4]api.Rat
	for i, n := range forms {
		values[i], slopes[i] = bernstein.Eval(n, x), bernstein.Eval(bernstein.Diff(n), x)
	}
	w := values[3]
	scale := rational.Mul(rational.Mul(w, w), span.Width(domain))
	var out api.Point
	for i := range out {
		rise, fall := rational.Mul(slopes[i], w), rational.Mul(values[i], slopes[3])
		out[i] = numbers.Over(rational.Sub(rise, fall), scale)
	}
	return out, api.OK
}

// Speed returns a box that contains all derivatives.
func Speed(c api.Curve) api.Box {
	if !fits(c) {
		return api.Box{}
	}
	forms := Numerators(c)
	squares := span.Sqr(bernstein.Bounds(forms[3]))
	width := span.Point(span.Width(curve.Domain(c)))
	var out api.Box
	for i := range out {
		derivatives, _ := span.Quo(bernstein.Bounds(slope(forms[i], forms[3])), squares)
		out[i], _ = span.Quo(derivatives, width)
	}
	return out
}

// Advance returns whether a curve always moves in one direction.
//
// The coordinate in this direction has the numerator along: the polynomial is linear
// in it, so it need not be summed up from those of the three coordinates.
func Advance(c api.Curve, d api.Point) int {
	if !fits(c) {
		return api.Open
	}
	forms := Numerators(c)
	along := make(api.Poly, len(c.Poles))
	for i, r := range d {
		along = bernstein.Add(along, bernstein.Scale(r, forms[i]))
	}
	q := slope(along, forms[3])
	positive := func(r api.Rat) bool { return rational.Sign(r) > 0 }
	switch {
	case !slices.ContainsFunc(q, positive):
		return api.No
	case slices.IndexFunc(q, func(r api.Rat) bool { return !positive(r) }) < 0:
		return api.Yes
	}
	return api.Open
}
