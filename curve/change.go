package curve

import (
	"slices"

	"brepkernel/api"
	"brepkernel/knots"
	"brepkernel/numbers"
	"brepkernel/rational"
	"brepkernel/vector"
)

// Mirror returns the curve in the other direction.
func Mirror(c api.Curve) api.Curve {
	out := api.Curve{Degree: c.Degree, Knots: knots.Mirror(c.Knots), Poles: numbers.Each(c.Poles, numbers.CopyPole)}
	slices.Reverse(out.Poles)
	return out
}

// Affine returns the curve with parameters from a to b.
func Affine(c api.Curve, a, b api.Rat) (api.Curve, api.Errno) {
	k, e := knots.Affine(c.Knots, a, b)
	if e != api.OK {
		return api.Curve{}, e
	}
	return api.Curve{Degree: c.Degree, Knots: k, Poles: numbers.Each(c.Poles, numbers.CopyPole)}, api.OK
}

// Move returns the image of a curve.
func Move(c api.Curve, m api.Map) api.Curve {
	return api.Curve{Degree: c.Degree, Knots: numbers.Each(c.Knots, numbers.Copy), Poles: numbers.Each(c.Poles, func(p api.Pole) api.Pole {
		return api.Pole{P: vector.Apply(m, p.P), W: numbers.Copy(p.W)}
	})}
}

// Join returns one curve made of two.
func Join(c, d api.Curve) (api.Curve, api.Errno) {
	if e := joins(c, d); e != api.OK {
		return api.Curve{}, e
	}
	poles := numbers.Each(c.Poles, numbers.CopyPole)
	scale := numbers.Over(c.Poles[len(c.Poles)-1].W, d.Poles[0].W)
	for _, p := range d.Poles[1:] {
		p = numbers.CopyPole(p)
		p.W = rational.Mul(scale, p.W)
		poles = append(poles, p)
	}
	k := numbers.Each(c.Knots[:len(c.Knots)-1], numbers.Copy)
	shift := rational.Sub(Domain(c).Hi, Domain(d).Lo)
	for _, t := range d.Knots[d.Degree+1:] {
		k = append(k, rational.Add(t, shift))
	}
	return api.Curve{Degree: c.Degree, Knots: k, Poles: poles}, api.OK
}

// joins returns whether one curve can be made of two.
func joins(c, d api.Curve) api.Errno {
	_, end := Ends(c)
	begin, _ := Ends(d)
	switch {
	case c.Degree != d.Degree || fits(c) != api.OK || fits(d) != api.OK:
		return api.ErrArg
	case !vector.Same(end, begin):
		return api.ErrRange
	case len(c.Poles)+len(d.Poles)-1 > api.MaxPoles:
		return api.ErrSize
	}
	return api.OK
}
