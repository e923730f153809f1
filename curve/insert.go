package curve

import (
	"brepkernel/api"
	"brepkernel/knots"
)

// Insert returns the curve with a further knot.
func Insert(c api.Curve, t api.Rat) (api.Curve, api.Errno) {
	return Refine(c, []api.Rat{t})
}

// Refine returns the curve with further knots.
func Refine(c api.Curve, l []api.Rat) (api.Curve, api.Errno) {
	s, e := splineOf(c)
	if e != api.OK {
		return api.Curve{}, e
	}
	for _, t := range l {
		if e := s.takes(t); e != api.OK {
			return api.Curve{}, e
		}
		s = s.insert(t)
	}
	return s.curve(), api.OK
}

// takes returns whether t can become a further knot of a curve.
func (s spline) takes(t api.Rat) api.Errno {
	switch {
	case !s.has(t):
		return api.ErrRange
	case knots.Times(s.knots, t) >= s.degree:
		return api.ErrKnots
	case len(s.poles) >= api.MaxPoles:
		return api.ErrSize
	}
	return api.OK
}

// Split returns the two parts.
func Split(c api.Curve, t api.Rat) (api.Curve, api.Curve, api.Errno) {
	s, e := splineOf(c)
	if e != api.OK {
		return api.Curve{}, api.Curve{}, e
	}
	if !s.has(t) {
		return api.Curve{}, api.Curve{}, api.ErrRange
	}
	lower, upper := s.split(t)
	return lower.curve(), upper.curve(), api.OK
}

// Pieces returns the Bezier pieces.
func Pieces(c api.Curve) []api.Curve {
	rest, e := splineOf(c)
	if e != api.OK {
		return nil
	}
	var out []api.Curve
	distinct := knots.Distinct(c.Knots)
	for _, t := range distinct[1 : len(distinct)-1] {
		var piece spline
		piece, rest = rest.split(t)
		out = append(out, piece.curve())
	}
	return append(out, rest.curve())
}
