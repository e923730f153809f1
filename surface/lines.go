package surface

import (
	"brepkernel/api"
	"brepkernel/curve"
	"brepkernel/numbers"
)

// The rows of a surface are curves in the direction of v, and its columns, which are
// the rows of the turned surface, curves in that of u. What is done to all of them is
// done to the homogeneous functions of the surface.

// transposed returns the columns of rows. If the rows differ in length, there are none.
func transposed[T any](rows [][]T) [][]T {
	if len(rows) == 0 {
		return nil
	}
	out := make([][]T, len(rows[0]))
	for _, row := range rows {
		if len(row) != len(out) {
			return nil
		}
		for j, x := range row {
			out[j] = append(out[j], x)
		}
	}
	return out
}

// turned returns the surface with its directions exchanged. It has the limbs of s.
func turned(s api.Surface) api.Surface {
	return api.Surface{U: s.V, V: s.U, KnotsU: s.KnotsV, KnotsV: s.KnotsU, Poles: transposed(s.Poles)}
}

// copied returns a surface with memory of its own.
func copied(s api.Surface) api.Surface {
	s.KnotsU, s.KnotsV = numbers.Each(s.KnotsU, numbers.Copy), numbers.Each(s.KnotsV, numbers.Copy)
	s.Poles = numbers.Each(s.Poles, func(row []api.Pole) []api.Pole { return numbers.Each(row, numbers.CopyPole) })
	return s
}

// withRows returns the surface with curves as its rows, which have the same knots.
func withRows(u axis, rows []api.Curve) api.Surface {
	out := api.Surface{U: u.degree, KnotsU: numbers.Each(u.knots, numbers.Copy), V: rows[0].Degree, KnotsV: rows[0].Knots}
	for _, c := range rows {
		out.Poles = append(out.Poles, c.Poles)
	}
	return out
}

// change makes another curve of a curve.
type change func(c api.Curve) (api.Curve, api.Errno)

// alongV returns the surface with f done to its rows.
func alongV(s api.Surface, f change) (api.Surface, api.Errno) {
	if e := fits(s); e != api.OK {
		return api.Surface{}, e
	}
	u, v := axes(s)
	rows := make([]api.Curve, len(s.Poles))
	for i, poles := range s.Poles {
		row, e := f(v.curve(poles))
		if e != api.OK {
			return api.Surface{}, e
		}
		rows[i] = row
	}
	return withRows(u, rows), api.OK
}

// alongU returns the surface with f done to its columns.
func alongU(s api.Surface, f change) (api.Surface, api.Errno) {
	out, e := alongV(turned(s), f)
	return turned(out), e
}

// pieces returns the surface in pieces without inner knots of v, by v.
func pieces(s api.Surface) []api.Surface {
	u, v := axes(s)
	rows := numbers.Each(s.Poles, func(poles []api.Pole) []api.Curve { return curve.Pieces(v.curve(poles)) })
	return numbers.Each(transposed(rows), func(rows []api.Curve) api.Surface { return withRows(u, rows) })
}
