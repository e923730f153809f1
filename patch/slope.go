package patch

import (
	"cmp"

	"brepkernel/api"
	"brepkernel/bezier"
	"brepkernel/span"
	"brepkernel/surface"
	"brepkernel/tensor"
	"brepkernel/vector"
)

// Derivs returns the two derivatives.
//
// They are those of the two curves on the patch that run through the point.
func Derivs(s api.Surface, u, v api.Rat) (api.Point, api.Point, api.Errno) {
	withU, errU := surface.IsoU(s, u)
	withV, errV := surface.IsoV(s, v)
	byU, errByU := bezier.Tangent(withV, u)
	byV, errByV := bezier.Tangent(withU, v)
	if e := cmp.Or(errU, errV, errByU, errByV); e != api.OK {
		return api.Point{}, api.Point{}, e
	}
	return byU, byV, api.OK
}

// Normal returns the vector product of the derivatives.
func Normal(s api.Surface, u, v api.Rat) (api.Point, api.Errno) {
	byU, byV, e := Derivs(s, u, v)
	return vector.Cross(byU, byV), e
}

// Speeds returns boxes that contain all derivatives.
func Speeds(s api.Surface) (api.Box, api.Box) {
	forms := Numerators(s)
	squares := span.Sqr(tensor.Bounds(forms[3]))
	speed := func(diff func(n api.Net) api.Net, domain api.Span) api.Box {
		width := span.Point(span.Width(domain))
		var out api.Box
		for i := range out {
			derivatives, _ := span.Quo(tensor.Bounds(slope(forms[i], forms[3], diff)), squares)
			out[i], _ = span.Quo(derivatives, width)
		}
		return out
	}
	u, v := surface.Domain(s)
	return speed(tensor.DiffU, u), speed(tensor.DiffV, v)
}

// slope returns the numerator n' w - n w' of the derivative of n / w, by an own
// parameter.
func slope(n, w api.Net, diff func(n api.Net) api.Net) api.Net {
	rise, _ := tensor.Mul(diff(n), w)
	fall, _ := tensor.Mul(n, diff(w))
	return tensor.Sub(rise, fall)
}

// Normals returns a box that contains all normals.
func Normals(s api.Surface) api.Box {
	a, b := Speeds(s)
	var out api.Box
	for i := range out {
		j, k := (i+1)%3, (i+2)%3
		out[i] = span.Sub(span.Mul(a[j], b[k]), span.Mul(a[k], b[j]))
	}
	return out
}
