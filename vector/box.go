package vector

import (
	"slices"

	"brepkernel/api"
	"brepkernel/rational"
	"brepkernel/span"
)

// BoxOf returns the least box that contains all points.
func BoxOf(l []api.Point) (api.Box, api.Errno) {
	if len(l) == 0 {
		return api.Box{}, api.ErrArg
	}
	var out api.Box
	for i := range 3 {
		order := func(p, q api.Point) int { return rational.Cmp(p[i], q[i]) }
		out[i] = span.Of(slices.MinFunc(l, order)[i], slices.MaxFunc(l, order)[i])
	}
	return out, api.OK
}

// Meets reports whether two boxes have a common point.
func Meets(a, b api.Box) bool {
	for i := range 3 {
		if _, ok := span.Meet(a[i], b[i]); !ok {
			return false
		}
	}
	return true
}

// Segment returns the squared distance of a point from a segment.
//
// With the directions from a to b and from a to p, the foot of the perpendicular
// is inside if their scalar product is between 0 and the square of the first
// one. Then the square of the distance is what Pythagoras leaves. A segment that
// is one point has the product 0.
func Segment(a, b, p api.Point) api.Rat {
	line, toPoint := Sub(b, a), Sub(p, a)
	product, square := Dot(line, toPoint), Dot(line, line)
	switch {
	case rational.Sign(product) <= 0:
		return Dot(toPoint, toPoint)
	case rational.Cmp(product, square) >= 0:
		fromEnd := Sub(p, b)
		return Dot(fromEnd, fromEnd)
	}
	foot, _ := rational.Quo(rational.Mul(product, product), square)
	return rational.Sub(Dot(toPoint, toPoint), foot)
}
