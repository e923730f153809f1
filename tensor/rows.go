package tensor

import (
	"brepkernel/api"
	"brepkernel/bernstein"
	"brepkernel/rational"
)

// A net is a polynomial in u with coefficients that are polynomials in v, its rows,
// or the other way round, with its columns. So what is to be done in one variable is
// done by package bernstein to each row or column.

// permitted reports whether a net has degrees that are permitted, and as many
// coefficients as these say.
func permitted(n api.Net) bool {
	inRange := func(degree int) bool { return degree >= 0 && degree <= api.MaxPoly }
	return inRange(n.U) && inRange(n.V) && len(n.C) == (n.U+1)*(n.V+1)
}

// rows returns the polynomials in v of which a net consists. They lie in its memory.
// A net that is not permitted has none.
func rows(n api.Net) []api.Poly {
	if !permitted(n) {
		return nil
	}
	length := n.V + 1
	out := make([]api.Poly, n.U+1)
	for i := range out {
		out[i] = n.C[i*length : (i+1)*length]
	}
	return out
}

// joined returns the net with these rows, all of the same length. It has their
// limbs.
func joined(rows []api.Poly) api.Net {
	if len(rows) == 0 {
		return api.Net{}
	}
	out := api.Net{U: len(rows) - 1, V: len(rows[0]) - 1}
	for _, p := range rows {
		out.C = append(out.C, p...)
	}
	return out
}

// zeros returns the net of these degrees that is 0.
func zeros(u, v int) api.Net {
	return api.Net{U: u, V: v, C: make([]api.Rat, (u+1)*(v+1))}
}

// turned returns the net whose rows are the columns of n. It has the limbs of n.
func turned(n api.Net) api.Net {
	if !permitted(n) {
		return api.Net{}
	}
	out := zeros(n.V, n.U)
	for i, row := range rows(n) {
		for j, r := range row {
			out.C[j*(n.U+1)+i] = r
		}
	}
	return out
}

// byRows returns the net whose rows are f of those of n.
func byRows(n api.Net, f func(p api.Poly) api.Poly) api.Net {
	list := rows(n)
	for i, p := range list {
		list[i] = f(p)
	}
	return joined(list)
}

// byColumns returns the net whose columns are f of those of n.
func byColumns(n api.Net, f func(p api.Poly) api.Poly) api.Net {
	return turned(byRows(turned(n), f))
}

// copied returns a polynomial with memory of its own.
func copied(p api.Poly) api.Poly {
	return bernstein.Scale(rational.Int(1), p)
}
