package surface

import (
	"brepkernel/api"
	"brepkernel/curve"
	"brepkernel/knots"
)

// axis is what a surface has for one of its two directions.
type axis struct {
	degree int
	knots  []api.Rat
}

// axes returns those of u and of v.
func axes(s api.Surface) (axis, axis) {
	return axis{s.U, s.KnotsU}, axis{s.V, s.KnotsV}
}

// both returns what f makes of the two axes.
func both[T any](s api.Surface, f func(a axis) T) (T, T) {
	u, v := axes(s)
	return f(u), f(v)
}

// check returns whether degree and knots are valid.
func (a axis) check() api.Errno { return knots.Check(a.knots, a.degree) }

// poles returns the number of poles in this direction.
func (a axis) poles() int { return knots.Poles(a.knots, a.degree) }

// domain returns the span of the parameter.
func (a axis) domain() api.Span { return curve.Domain(a.bare()) }

// bare returns the curve without poles.
func (a axis) bare() api.Curve { return a.curve(nil) }

// curve returns the curve with these poles.
func (a axis) curve(poles []api.Pole) api.Curve {
	return api.Curve{Degree: a.degree, Knots: a.knots, Poles: poles}
}
