package curve

import (
	"iter"
	"slices"

	"brepkernel/api"
	"brepkernel/basis"
	"brepkernel/homogeneous"
	"brepkernel/knots"
	"brepkernel/numbers"
	"brepkernel/rational"
)

// Elevate returns the curve with a degree greater by one.
func Elevate(c api.Curve) (api.Curve, api.Errno) {
	s, e := splineOf(c)
	if e != api.OK {
		return api.Curve{}, e
	}
	if s.degree == api.MaxDegree {
		return api.Curve{}, api.ErrRange
	}
	k := onceMore(s.knots)
	if knots.Poles(k, s.degree+1) > api.MaxPoles {
		return api.Curve{}, api.ErrSize
	}
	return s.elevated(k).curve(), api.OK
}

// onceMore returns knots of which each different one occurs once more.
func onceMore(k []api.Rat) []api.Rat {
	var out []api.Rat
	for t, times := range counted(k) {
		out = append(out, slices.Repeat([]api.Rat{t}, times+1)...)
	}
	return out
}

// counted yields the different numbers of a list, ascending, with the number of times
// that each occurs.
func counted(list []api.Rat) iter.Seq2[api.Rat, int] {
	return func(yield func(r api.Rat, times int) bool) {
		for _, r := range knots.Distinct(list) {
			if !yield(r, knots.Times(list, r)) {
				return
			}
		}
	}
}

// elevated returns the spline with a degree greater by 1 and the knots k. Each pole is
// the value of a polar form at the knots behind the one with its index, on any interval
// on which the pole has an effect: the one that begins with this knot is one of them.
func (s spline) elevated(k []api.Rat) spline {
	out := spline{degree: s.degree + 1, knots: k}
	forms := s.polarForms()
	for j := range knots.Poles(k, out.degree) {
		piece, _ := knots.Interval(s.knots, s.degree, k[j])
		args := k[j+1 : j+1+out.degree]
		out.poles = append(out.poles, homogeneous.Make(func(i int) api.Rat { return forms[i].elevated(piece, args) }))
	}
	return out
}

// polarForm is what a spline has of these, one for each interval between its knots.
type polarForm func(piece int, args []api.Rat) api.Rat

// polarForms returns those of the four homogeneous functions.
func (s spline) polarForms() [4]polarForm {
	var out [4]polarForm
	for i := range out {
		c := numbers.Each(s.poles, func(q homogeneous.Pole) api.Rat { return q[i] })
		out[i] = func(piece int, args []api.Rat) api.Rat {
			value, _ := basis.Blossom(s.knots, s.degree, c, piece, args)
			return value
		}
	}
	return out
}

// elevated returns the value of the polar form of the same polynomial with one more
// argument: the mean of those without one of the arguments.
func (f polarForm) elevated(piece int, args []api.Rat) api.Rat {
	var sum api.Rat
	for t, times := range counted(args) {
		at := slices.IndexFunc(args, func(r api.Rat) bool { return rational.Same(r, t) })
		value := f(piece, slices.Delete(slices.Clone(args), at, at+1))
		sum = rational.Add(sum, rational.Mul(rational.Int(int64(times)), value))
	}
	return numbers.Over(sum, rational.Int(int64(len(args))))
}
