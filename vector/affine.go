package vector

import (
	"brepkernel/api"
	"brepkernel/rational"
)

// Identity returns the map that changes nothing.
func Identity() api.Map {
	var out api.Map
	for i := range 3 {
		out.M[i][i] = rational.Int(1)
	}
	return out
}

// Apply returns the image of a point.
func Apply(m api.Map, p api.Point) api.Point {
	return Add(Turn(m, p), m.T)
}

// Turn returns the image of a vector.
func Turn(m api.Map, p api.Point) api.Point {
	var out api.Point
	for i := range 3 {
		out[i] = Dot(m.M[i], p)
	}
	return out
}

// Compose returns the map that does b and then a.
func Compose(a, b api.Map) api.Map {
	out := api.Map{T: Apply(a, b.T)}
	columns := transposed(b.M)
	for i := range 3 {
		for j := range 3 {
			out.M[i][j] = Dot(a.M[i], columns[j])
		}
	}
	return out
}

// Inverse returns the inverse map.
//
// The columns of the inverse matrix are vector products of the rows, divided by
// the determinant.
func Inverse(m api.Map) (api.Map, api.Errno) {
	scale, e := rational.Quo(rational.Int(1), Volume(m))
	if e != api.OK {
		return api.Map{}, api.ErrFlat
	}
	var columns [3]api.Point
	for i := range 3 {
		columns[i] = Scale(scale, Cross(m.M[(i+1)%3], m.M[(i+2)%3]))
	}
	back := api.Map{M: transposed(columns)}
	back.T = Turn(back, Scale(rational.Int(-1), m.T))
	return back, api.OK
}

// transposed returns the columns of a matrix that is given by its rows. They
// have the limbs of these.
func transposed(m [3]api.Point) [3]api.Point {
	var out [3]api.Point
	for i := range 3 {
		for j := range 3 {
			out[i][j] = m[j][i]
		}
	}
	return out
}

// Volume returns by how much a map changes volumes.
func Volume(m api.Map) api.Rat {
	return Det(m.M[0], m.M[1], m.M[2])
}
