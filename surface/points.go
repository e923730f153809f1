package surface

import (
	"cmp"

	"brepkernel/api"
	"brepkernel/basis"
	"brepkernel/homogeneous"
	"brepkernel/numbers"
)

// mix says how the poles of one direction make up a point: those from an index on have
// these shares in it, and the others none.
type mix struct {
	from   int
	shares []api.Rat
}

// at returns the mix for a parameter.
func (a axis) at(t api.Rat) (mix, api.Errno) {
	from, shares, e := basis.Values(a.knots, a.degree, t)
	return mix{from, shares}, e
}

// of returns the sum of poles, which are given by their indices.
func (m mix) of(pole func(i int) homogeneous.Pole) homogeneous.Pole {
	return homogeneous.Sum(m.shares, func(i int) homogeneous.Pole { return pole(m.from + i) })
}

// ofRow returns the sum of the poles of a row.
func (m mix) ofRow(row []api.Pole) homogeneous.Pole {
	return m.of(func(j int) homogeneous.Pole { return homogeneous.Of(row[j]) })
}

// Eval returns a point.
func Eval(s api.Surface, u, v api.Rat) (api.Point, api.Errno) {
	if e := fits(s); e != api.OK {
		return api.Point{}, e
	}
	rows, columns := axes(s)
	x, errU := rows.at(u)
	y, errV := columns.at(v)
	if e := cmp.Or(errU, errV); e != api.OK {
		return api.Point{}, e
	}
	sum := x.of(func(i int) homogeneous.Pole { return y.ofRow(s.Poles[i]) })
	return sum.Plain().P, api.OK
}

// IsoU returns the curve of a value of u.
func IsoU(s api.Surface, u api.Rat) (api.Curve, api.Errno) {
	return IsoV(turned(s), u)
}

// IsoV returns the curve of a value of v.
func IsoV(s api.Surface, v api.Rat) (api.Curve, api.Errno) {
	if e := fits(s); e != api.OK {
		return api.Curve{}, e
	}
	along, across := axes(s)
	y, e := across.at(v)
	if e != api.OK {
		return api.Curve{}, e
	}
	poles := numbers.Each(s.Poles, func(row []api.Pole) api.Pole { return y.ofRow(row).Plain() })
	return api.Curve{Degree: along.degree, Knots: numbers.Each(along.knots, numbers.Copy), Poles: poles}, api.OK
}
