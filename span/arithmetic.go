package span

import (
	"brepkernel/api"
	"brepkernel/rational"
)

// Add returns the span of all sums.
func Add(a, b api.Span) api.Span {
	return api.Span{Lo: rational.Add(a.Lo, b.Lo), Hi: rational.Add(a.Hi, b.Hi)}
}

// Sub returns the span of all differences.
func Sub(a, b api.Span) api.Span {
	return api.Span{Lo: rational.Sub(a.Lo, b.Hi), Hi: rational.Sub(a.Hi, b.Lo)}
}

// Neg returns the span with the other sign.
func Neg(s api.Span) api.Span {
	return api.Span{Lo: rational.Neg(s.Hi), Hi: rational.Neg(s.Lo)}
}

// Mul returns the span of all products.
//
// Its ends are two of the four products of ends. Signs tell which ones, but for
// two spans that both reach to both sides of 0.
func Mul(a, b api.Span) api.Span {
	if side(a) == 0 {
		a, b = b, a
	}
	x, y := [2]api.Rat{a.Lo, a.Hi}, [2]api.Rat{b.Lo, b.Hi}
	least := func(end int) api.Rat {
		return rational.Mul(x[lesser(y[end])], y[end])
	}
	greatest := func(end int) api.Rat {
		return rational.Mul(x[1-lesser(y[end])], y[end])
	}
	switch side(a) {
	case 1:
		return api.Span{Lo: least(0), Hi: greatest(1)}
	case -1:
		return api.Span{Lo: least(1), Hi: greatest(0)}
	}
	return api.Span{Lo: rational.Min(least(0), least(1)), Hi: rational.Max(greatest(0), greatest(1))}
}

// side returns 1 if no number of the span is negative, -1 if none is positive,
// and otherwise 0.
func side(s api.Span) int {
	switch {
	case rational.Sign(s.Lo) >= 0:
		return 1
	case rational.Sign(s.Hi) <= 0:
		return -1
	}
	return 0
}

// lesser returns which end of a span has the lesser product with the factor: 0
// for the lower one, and 1 for the upper one.
func lesser(factor api.Rat) int {
	if rational.Sign(factor) < 0 {
		return 1
	}
	return 0
}

// Sqr returns the span of all squares.
func Sqr(s api.Span) api.Span {
	low, high := rational.Mul(s.Lo, s.Lo), rational.Mul(s.Hi, s.Hi)
	switch side(s) {
	case 1:
		return api.Span{Lo: low, Hi: high}
	case -1:
		return api.Span{Lo: high, Hi: low}
	}
	return api.Span{Hi: rational.Max(low, high)}
}

// Quo returns the span of all quotients.
func Quo(a, b api.Span) (api.Span, api.Errno) {
	if Has(b, api.Rat{}) {
		return api.Span{}, api.ErrZero
	}
	return Mul(a, inverse(b)), api.OK
}

// inverse returns the span of 1 divided by the numbers of a span without 0.
func inverse(s api.Span) api.Span {
	low, _ := rational.Quo(rational.Int(1), s.Hi)
	high, _ := rational.Quo(rational.Int(1), s.Lo)
	return api.Span{Lo: low, Hi: high}
}

// Det2 returns a span that contains the determinants of all matrices.
func Det2(m [2][2]api.Span) api.Span {
	return Sub(Mul(m[0][0], m[1][1]), Mul(m[0][1], m[1][0]))
}

// Det3 returns a span that contains the determinants of all matrices.
func Det3(m [3][3]api.Span) api.Span {
	var terms [3]api.Span
	for column := range 3 {
		terms[column] = Mul(m[0][column], Det2(below(m, column)))
	}
	return Add(Sub(terms[0], terms[1]), terms[2])
}

// below returns the rows 1 and 2 without a column.
func below(m [3][3]api.Span, column int) [2][2]api.Span {
	left, right := 0, 2
	switch column {
	case 0:
		left = 1
	case 2:
		right = 1
	}
	return [2][2]api.Span{{m[1][left], m[1][right]}, {m[2][left], m[2][right]}}
}
