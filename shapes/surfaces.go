package shapes

import (
	"brepkernel/api"
	"brepkernel/curve"
	"brepkernel/numbers"
	"brepkernel/rational"
	"brepkernel/vector"
)

// Bilinear returns the surface over four corners.
func Bilinear(a, b, c, d api.Point) api.Surface {
	return between(Line(a, c), Line(b, d))
}

// Ruled returns the surface between two curves.
func Ruled(c, d api.Curve) (api.Surface, api.Errno) {
	if !curve.Same(withoutPoles(c), withoutPoles(d)) {
		return api.Surface{}, api.ErrKnots
	}
	return between(c, d), api.OK
}

// withoutPoles returns degree and knots of a curve alone.
func withoutPoles(c api.Curve) api.Curve {
	return api.Curve{Degree: c.Degree, Knots: c.Knots}
}

// Extrude returns the surface that a moved curve covers.
func Extrude(c api.Curve, v api.Point) api.Surface {
	shift := vector.Identity()
	shift.T = v
	return between(c, curve.Move(c, shift))
}

// between returns the surface whose rows are two curves with the same degree and knots.
func between(c, d api.Curve) api.Surface {
	return across(1, evenKnots(1, 1), c, d)
}

// across returns the surface with this degree and these knots in u, whose rows are
// curves with the same degree and knots. It has the memory of the knots, but none of
// the curves.
func across(degree int, knots []api.Rat, rows ...api.Curve) api.Surface {
	out := api.Surface{U: degree, V: rows[0].Degree, KnotsU: knots, KnotsV: numbers.Each(rows[0].Knots, numbers.Copy)}
	for _, c := range rows {
		out.Poles = append(out.Poles, numbers.Each(c.Poles, numbers.CopyPole))
	}
	return out
}

// Revolve returns the surface that a curve covers that is turned about the z axis.
func Revolve(c api.Curve, quarters int) (api.Surface, api.Errno) {
	if quarters < 1 || quarters > 4 {
		return api.Surface{}, api.ErrRange
	}
	circle := arc(quarters)
	rows := numbers.Each(circle.Poles, func(q api.Pole) api.Curve { return turned(c, q) })
	return across(circle.Degree, circle.Knots, rows...), api.OK
}

// turned returns the row of a surface of revolution that belongs to a pole of the unit
// circle.
func turned(c api.Curve, q api.Pole) api.Curve {
	out := curve.Move(c, aboutZ(q.P[0], q.P[1]))
	for i, p := range out.Poles {
		out.Poles[i].W = rational.Mul(q.W, p.W)
	}
	return out
}

// Rotation returns a turn about the z axis.
func Rotation(t api.Rat) api.Map {
	one, square := rational.Int(1), rational.Mul(t, t)
	sum := rational.Add(one, square)
	return aboutZ(numbers.Over(rational.Sub(one, square), sum), numbers.Over(rational.Add(t, t), sum))
}

// aboutZ returns the map that turns (1, 0, 0) into (x, y, 0) and stretches what is at
// right angles to the z axis as much.
func aboutZ(x, y api.Rat) api.Map {
	out := vector.Identity()
	out.M[0] = api.Point{numbers.Copy(x), rational.Neg(y)}
	out.M[1] = api.Point{numbers.Copy(y), numbers.Copy(x)}
	return out
}
