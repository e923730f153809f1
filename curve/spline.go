package curve

import (
	"slices"

	"brepkernel/api"
	"brepkernel/homogeneous"
	"brepkernel/knots"
	"brepkernel/numbers"
	"brepkernel/rational"
)

// spline is a curve by its homogeneous functions. It may have more poles than a
// curve may, and it may share memory with curves and with other splines.
type spline struct {
	degree int
	knots  []api.Rat
	poles  []homogeneous.Pole
}

// splineOf returns the spline of a curve. What is done with splines relies on knots
// that fit the poles and are valid numbers: others need not have an order.
func splineOf(c api.Curve) (spline, api.Errno) {
	if slices.ContainsFunc(c.Knots, func(t api.Rat) bool { return !rational.Valid(t) }) {
		return spline{}, api.ErrArg
	}
	if e := fits(c); e != api.OK {
		return spline{}, e
	}
	return spline{c.Degree, c.Knots, numbers.Each(c.Poles, homogeneous.Of)}, api.OK
}

// curve returns the curve of a spline, with memory of its own.
func (s spline) curve() api.Curve {
	return api.Curve{Degree: s.degree, Knots: numbers.Each(s.knots, numbers.Copy), Poles: numbers.Each(s.poles, homogeneous.Pole.Plain)}
}

// has reports whether t is between the first and the last knot.
func (s spline) has(t api.Rat) bool {
	return rational.Cmp(s.knots[0], t) < 0 && rational.Cmp(t, s.knots[len(s.knots)-1]) < 0
}

// insert returns the spline with t as a further knot, by Boehm's rule: of the poles
// that have an effect on the interval of t, the first and the last one stay, and those
// in the middle make way for poles between neighbours.
func (s spline) insert(t api.Rat) spline {
	at, _ := knots.Interval(s.knots, s.degree, t)
	first := at - s.degree
	poles := slices.Clone(s.poles[:first+1])
	for j := first + 1; j <= at; j++ {
		share := numbers.Share(s.knots[j], s.knots[j+s.degree], t)
		poles = append(poles, s.poles[j-1].Between(s.poles[j], share))
	}
	return spline{s.degree, knots.Insert(s.knots, t), append(poles, s.poles[at:]...)}
}

// split returns the parts of the spline up to t and from t on. Where t occurs degree
// times, a pole lies on the curve: it belongs to both.
func (s spline) split(t api.Rat) (spline, spline) {
	for range s.degree - knots.Times(s.knots, t) {
		s = s.insert(t)
	}
	at, _ := knots.Interval(s.knots, s.degree, t)
	first, end := at-s.degree, []api.Rat{t}
	lower := spline{s.degree, slices.Concat(s.knots[:at+1], end), s.poles[:first+1]}
	upper := spline{s.degree, slices.Concat(end, s.knots[first+1:]), s.poles[first:]}
	return lower, upper
}
