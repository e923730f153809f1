package tensor

import (
	"brepkernel/api"
	"brepkernel/bernstein"
	"brepkernel/numbers"
	"brepkernel/rational"
)

// DiffU returns the derivative by u.
func DiffU(n api.Net) api.Net {
	return byColumns(n, bernstein.Diff)
}

// DiffV returns the derivative by v.
func DiffV(n api.Net) api.Net {
	return byRows(n, bernstein.Diff)
}

// Elevate returns the same polynomial with greater degrees.
func Elevate(n api.Net, u, v int) (api.Net, api.Errno) {
	switch {
	case !permitted(n):
		return api.Net{}, api.ErrArg
	case u < n.U || u > api.MaxPoly || v < n.V || v > api.MaxPoly:
		return api.Net{}, api.ErrRange
	}
	return byColumns(byRows(n, raisedTo(v)), raisedTo(u)), api.OK
}

// raisedTo returns the function that elevates polynomials to a degree, which is in
// range.
func raisedTo(degree int) func(p api.Poly) api.Poly {
	return func(p api.Poly) api.Poly {
		out, _ := bernstein.Elevate(p, degree)
		return out
	}
}

// Add returns the sum.
func Add(a, b api.Net) api.Net {
	return pairwise(a, b, bernstein.Add)
}

// Sub returns the difference.
func Sub(a, b api.Net) api.Net {
	return pairwise(a, b, bernstein.Sub)
}

// pairwise returns the net whose rows are f of those of both nets, after one of
// these has got the degree in u of the other one. The degrees in v are left to f.
func pairwise(a, b api.Net, f func(p, q api.Poly) api.Poly) api.Net {
	if !permitted(a) || !permitted(b) {
		return api.Net{}
	}
	if a.U < b.U {
		a = byColumns(a, raisedTo(b.U))
	} else if a.U > b.U {
		b = byColumns(b, raisedTo(a.U))
	}
	list, others := rows(a), rows(b)
	for i, p := range list {
		list[i] = f(p, others[i])
	}
	return joined(list)
}

// Mul returns the product.
//
// Coefficients that are multiplied by the binomial coefficients of both degrees have
// the products of polynomials in powers.
func Mul(a, b api.Net) (api.Net, api.Errno) {
	switch {
	case !permitted(a) || !permitted(b):
		return api.Net{}, api.ErrArg
	case a.U+b.U > api.MaxPoly || a.V+b.V > api.MaxPoly:
		return api.Net{}, api.ErrSize
	}
	left, scaleA := weighted(a)
	right, scaleB := weighted(b)
	out := zeros(a.U+b.U, a.V+b.V)
	sums := rows(out)
	for i, p := range rows(left) {
		for k, q := range rows(right) {
			addProduct(sums[i+k], p, q)
		}
	}
	for i, w := range weights(out, rational.Mul(scaleA, scaleB)) {
		out.C[i] = numbers.Over(out.C[i], w)
	}
	return out, api.OK
}

// addProduct adds the product of two polynomials in powers to a third one.
func addProduct(sum, p, q []api.Rat) {
	for i, x := range p {
		for j, y := range q {
			if rational.Sign(x) != 0 && rational.Sign(y) != 0 {
				sum[i+j] = rational.Add(sum[i+j], rational.Mul(x, y))
			}
		}
	}
}

// weighted returns the coefficients times their binomial coefficients, as integers
// over a denominator.
func weighted(n api.Net) (api.Net, api.Rat) {
	c, scale := numbers.Whole(n.C)
	for i, w := range weights(n, rational.Int(1)) {
		c[i] = rational.Mul(c[i], w)
	}
	return api.Net{U: n.U, V: n.V, C: c}, scale
}

// weights returns the products of the binomial coefficients of both degrees, times a
// number.
func weights(n api.Net, scale api.Rat) []api.Rat {
	out := make([]api.Rat, 0, len(n.C))
	columns := numbers.Binomials(n.V)
	for _, x := range numbers.Binomials(n.U) {
		out = append(out, bernstein.Scale(rational.Mul(scale, x), columns)...)
	}
	return out
}

// Scale returns a multiple.
func Scale(r api.Rat, n api.Net) api.Net {
	return byRows(n, func(p api.Poly) api.Poly { return bernstein.Scale(r, p) })
}
