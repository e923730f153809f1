package vector

import (
	"brepkernel/api"
	"brepkernel/rational"
)

// Orient2 returns on which side of the line from a to b the point c is, seen from above.
func Orient2(a, b, c api.Point) int {
	var along, aside [2]api.Rat
	for i := range 2 {
		along[i] = rational.Sub(b[i], a[i])
		aside[i] = rational.Sub(c[i], a[i])
	}
	return rational.Cmp(rational.Mul(along[0], aside[1]), rational.Mul(along[1], aside[0]))
}

// Orient3 returns on which side of the plane through a, b and c the point d is.
func Orient3(a, b, c, d api.Point) int {
	return rational.Sign(Det(Sub(b, a), Sub(c, a), Sub(d, a)))
}

// Through returns the plane through three points.
func Through(a, b, c api.Point) (api.Plane, api.Errno) {
	normal := Cross(Sub(b, a), Sub(c, a))
	if Zero(normal) {
		return api.Plane{}, api.ErrFlat
	}
	return api.Plane{N: normal, D: Dot(normal, a)}, api.OK
}

// Side returns on which side of a plane a point is.
func Side(q api.Plane, p api.Point) int {
	return rational.Cmp(Dot(q.N, p), q.D)
}

// SamePlane reports whether two planes are the same, with the same outer side.
//
// The number could only be the quotient of the first coordinates that are not
// zero: equal signs make it positive, and products compare the rest without a
// division.
func SamePlane(a, b api.Plane) bool {
	x, y := numbers(a), numbers(b)
	for i := range x {
		if rational.Sign(x[i]) != rational.Sign(y[i]) {
			return false
		}
	}
	first := firstNotZero(a.N)
	for i := first + 1; i < len(x); i++ {
		if !rational.Same(rational.Mul(x[first], y[i]), rational.Mul(y[first], x[i])) {
			return false
		}
	}
	return true
}

// numbers returns N and D of a plane.
func numbers(q api.Plane) [4]api.Rat {
	return [4]api.Rat{q.N[0], q.N[1], q.N[2], q.D}
}

// firstNotZero returns the index of the first coordinate that is not zero, or 3
// if there is none.
func firstNotZero(p api.Point) int {
	for i := range 3 {
		if rational.Sign(p[i]) != 0 {
			return i
		}
	}
	return 3
}
