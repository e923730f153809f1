package patch_test

import (
	"math/big"
	"slices"
	"strconv"
	"strings"

	"brepkernel/api"
)

// grid is numbers in rows, all of the same length.
type grid [][]*big.Rat

// gridOf returns the grid of what f returns for a row and a column.
func gridOf(rows, columns int, f func(i, j int) *big.Rat) grid {
	out := make(grid, rows)
	for i := range out {
		for j := range columns {
			out[i] = append(out[i], f(i, j))
		}
	}
	return out
}

// columns returns their number.
func (g grid) columns() int { return len(g[0]) }

func (g grid) turned() grid {
	return gridOf(g.columns(), len(g), func(i, j int) *big.Rat { return g[j][i] })
}

// byRows returns what f makes of the rows.
func (g grid) byRows(f func(row []*big.Rat) []*big.Rat) grid { return each(g, f) }

// all returns the numbers, row by row.
func (g grid) all() []*big.Rat { return slices.Concat(g...) }

// powers are the coefficients of x^i y^j of a polynomial.
type powers struct{ grid }

func (p powers) at(x, y *big.Rat) *big.Rat {
	value := func(c []*big.Rat, t *big.Rat) *big.Rat {
		sum := new(big.Rat)
		for _, r := range slices.Backward(c) {
			sum = plus(times(sum, t), r)
		}
		return sum
	}
	return value(each(p.grid, func(row []*big.Rat) *big.Rat { return value(row, y) }), x)
}

// minus returns p - q for polynomials with as many rows and columns.
func (p powers) minus(q powers) powers {
	return powers{gridOf(len(p.grid), p.columns(), func(i, j int) *big.Rat { return minus(p.grid[i][j], q.grid[i][j]) })}
}

func (p powers) times(q powers) powers {
	out := gridOf(len(p.grid)+len(q.grid)-1, p.columns()+q.columns()-1, func(i, j int) *big.Rat { return new(big.Rat) })
	for a, row := range p.grid {
		for b, x := range row {
			for c, other := range q.grid {
				for d, y := range other {
					out[a+c][b+d] = plus(out[a+c][b+d], times(x, y))
				}
			}
		}
	}
	return powers{out}
}

// byY and byX return the derivatives. Their degrees are less by 1.
func (p powers) byY() powers {
	return powers{p.byRows(func(row []*big.Rat) []*big.Rat {
		var out []*big.Rat
		for i, c := range row[1:] {
			out = append(out, times(c, big.NewRat(int64(i+1), 1)))
		}
		return out
	})}
}

func (p powers) byX() powers {
	return powers{powers{p.turned()}.byY().turned()}
}

func binomial(n, k int) *big.Rat {
	return new(big.Rat).SetInt(new(big.Int).Binomial(int64(n), int64(k)))
}

// fromBernstein returns the coefficients of the powers of x in the sum of
// c[i] C(n, i) x^i (1 - x)^(n - i): they are differences.
func fromBernstein(c []*big.Rat) []*big.Rat {
	var out []*big.Rat
	for k := range c {
		sum := new(big.Rat)
		for i := range k + 1 {
			term := times(c[i], binomial(k, i))
			if (k-i)%2 == 1 {
				term.Neg(term)
			}
			sum = plus(sum, term)
		}
		out = append(out, times(sum, binomial(len(c)-1, k)))
	}
	return out
}

// toBernstein returns the coefficients with the same formal degree, which are the values
// of the polar form at lists of 0 and 1.
func toBernstein(c []*big.Rat) []*big.Rat {
	var out []*big.Rat
	for k := range c {
		sum := new(big.Rat)
		for j := range k + 1 {
			sum = plus(sum, times(c[j], quotient(binomial(k, j), binomial(len(c)-1, j))))
		}
		out = append(out, sum)
	}
	return out
}

// powersOf returns the polynomial with these Bernstein coefficients.
func powersOf(g grid) powers {
	return powers{g.byRows(fromBernstein).turned().byRows(fromBernstein).turned()}
}

// bernstein returns the coefficients with the formal degrees that the numbers of rows
// and columns say.
func (p powers) bernstein() []*big.Rat {
	return p.byRows(toBernstein).turned().byRows(toBernstein).turned().all()
}

// side is the domain in one direction.
type side struct{ lo, hi *big.Rat }

func (d side) width() *big.Rat { return minus(d.hi, d.lo) }

// own returns the own parameter.
func (d side) own(t *big.Rat) *big.Rat { return quotient(minus(t, d.lo), d.width()) }

// parameters returns the ends and some numbers between them.
func (d side) parameters() []*big.Rat {
	return each(exact("0 1/1000003 1/3 1/2 7/8 1"), func(x *big.Rat) *big.Rat { return between(d.lo, d.hi, x) })
}

// outside returns numbers below and above the domain.
func (d side) outside() []*big.Rat {
	var out []*big.Rat
	for _, x := range exact("1 1/1000000007 1e-300 1e300") {
		out = append(out, minus(d.lo, x), plus(d.hi, x))
	}
	return out
}

// model is a patch by its homogeneous functions of the own parameters, and by the
// numerators n' w - n w' of the derivatives of its coordinates by u and by v.
type model struct {
	u, v   side
	forms  [4]powers
	slopes [2][3]powers
}

func modelOf(s api.Surface) model {
	m := model{
		u: side{value(s.KnotsU[0]), value(s.KnotsU[len(s.KnotsU)-1])},
		v: side{value(s.KnotsV[0]), value(s.KnotsV[len(s.KnotsV)-1])},
	}
	for i, g := range coefficients(s) {
		m.forms[i] = powersOf(g)
	}
	w := m.forms[3]
	for i, n := range m.forms[:3] {
		m.slopes[0][i] = n.byX().times(w).minus(n.times(w.byX()))
		m.slopes[1][i] = n.byY().times(w).minus(n.times(w.byY()))
	}
	return m
}

// coefficients returns W x, W y, W z and W of the poles.
func coefficients(s api.Surface) [4]grid {
	var out [4]grid
	for i := range out {
		out[i] = gridOf(len(s.Poles), len(s.Poles[0]), func(a, b int) *big.Rat {
			p := s.Poles[a][b]
			if i == 3 {
				return value(p.W)
			}
			return times(value(p.W), value(p.P[i]))
		})
	}
	return out
}

// triple is a point or a vector in space.
type triple [3]*big.Rat

func (a triple) minus(b triple) triple {
	return triple{minus(a[0], b[0]), minus(a[1], b[1]), minus(a[2], b[2])}
}

func (a triple) dot(b triple) *big.Rat {
	return plus(plus(times(a[0], b[0]), times(a[1], b[1])), times(a[2], b[2]))
}

func (a triple) cross(b triple) triple {
	return triple{
		minus(times(a[1], b[2]), times(a[2], b[1])),
		minus(times(a[2], b[0]), times(a[0], b[2])),
		minus(times(a[0], b[1]), times(a[1], b[0])),
	}
}

func (a triple) point() api.Point { return api.Point{rat(a[0]), rat(a[1]), rat(a[2])} }

func tripleOf(p api.Point) triple { return triple{value(p[0]), value(p[1]), value(p[2])} }

// point returns the one at parameters.
func (m model) point(u, v *big.Rat) triple {
	x, y := m.u.own(u), m.v.own(v)
	var out triple
	for i := range out {
		out[i] = quotient(m.forms[i].at(x, y), m.forms[3].at(x, y))
	}
	return out
}

// derivs returns the derivatives at parameters.
func (m model) derivs(u, v *big.Rat) (triple, triple) {
	x, y := m.u.own(u), m.v.own(v)
	w := m.forms[3].at(x, y)
	var out [2]triple
	for k, d := range [2]side{m.u, m.v} {
		for i := range 3 {
			out[k][i] = quotient(m.slopes[k][i].at(x, y), times(times(w, w), d.width()))
		}
	}
	return out[0], out[1]
}

// bounds are the ends of the spans of a box.
type bounds [3][2]*big.Rat

func (b bounds) box() api.Box {
	var out api.Box
	for i, ends := range b {
		out[i] = api.Span{Lo: rat(ends[0]), Hi: rat(ends[1])}
	}
	return out
}

// hull returns the least and the greatest number.
func hull(l ...*big.Rat) [2]*big.Rat { return [2]*big.Rat{least(l), greatest(l)} }

// speeds returns the bounds that P13.3 describes. The square of the weight is positive:
// the quotients of the ends are those that count.
func (m model) speeds() (bounds, bounds) {
	w := m.forms[3].bernstein()
	var out [2]bounds
	for k, d := range [2]side{m.u, m.v} {
		for i := range 3 {
			var all []*big.Rat
			for _, q := range hull(m.slopes[k][i].bernstein()...) {
				for _, x := range hull(w...) {
					all = append(all, quotient(q, times(times(x, x), d.width())))
				}
			}
			out[k][i] = hull(all...)
		}
	}
	return out[0], out[1]
}

// normals returns the bounds of the vector product of two boxes.
func normals(a, b bounds) bounds {
	product := func(x, y [2]*big.Rat) [2]*big.Rat {
		return hull(times(x[0], y[0]), times(x[0], y[1]), times(x[1], y[0]), times(x[1], y[1]))
	}
	difference := func(x, y [2]*big.Rat) [2]*big.Rat {
		return [2]*big.Rat{minus(x[0], y[1]), minus(x[1], y[0])}
	}
	return bounds{
		difference(product(a[1], b[2]), product(a[2], b[1])),
		difference(product(a[2], b[0]), product(a[0], b[2])),
		difference(product(a[0], b[1]), product(a[1], b[0])),
	}
}

// corners returns the points of the poles (0, 0), (U, 0) and (0, V).
func corners(s api.Surface) [3]triple {
	first, last := s.Poles[0], s.Poles[len(s.Poles)-1]
	return [3]triple{tripleOf(first[0].P), tripleOf(last[0].P), tripleOf(first[len(first)-1].P)}
}

// flat returns the greatest squared distance of a pole from the plane of three corners,
// or nil if there is none.
func flat(s api.Surface) *big.Rat {
	c := corners(s)
	n := c[1].minus(c[0]).cross(c[2].minus(c[0]))
	square := n.dot(n)
	if square.Sign() == 0 {
		return nil
	}
	var all []*big.Rat
	for _, row := range s.Poles {
		for _, p := range row {
			away := n.dot(tripleOf(p.P).minus(c[0]))
			all = append(all, quotient(times(away, away), square))
		}
	}
	return greatest(all)
}

// patchOf returns a patch of some degrees. A third of the patches have equal weights.
func (s *source) patchOf(u, v int, next func() *big.Rat) api.Surface {
	knots := func(degree int) []api.Rat {
		lo := next()
		hi := plus(lo, s.positive())
		return slices.Concat(slices.Repeat([]api.Rat{rat(lo)}, degree+1), slices.Repeat([]api.Rat{rat(hi)}, degree+1))
	}
	out := api.Surface{U: u, V: v, KnotsU: knots(u), KnotsV: knots(v)}
	equalWeights, weight := s.below(3) == 0, s.positive()
	for range u + 1 {
		var row []api.Pole
		for range v + 1 {
			if !equalWeights {
				weight = s.positive()
			}
			row = append(row, api.Pole{P: api.Point{rat(next()), rat(next()), rat(next())}, W: rat(weight)})
		}
		out.Poles = append(out.Poles, row)
	}
	return out
}

// patches returns some of all degrees, also such with sides or corners that are one
// point, and such that lie in a plane or on a line.
func patches() []api.Surface {
	s := source(1)
	out := []api.Surface{square(), saddle(), cone(), octant()}
	for u := 1; u <= api.MaxDegree; u++ {
		for v := 1; v <= api.MaxDegree; v++ {
			out = append(out, s.patchOf(u, v, s.simple))
		}
		out = append(out, s.patchOf(u, 1+u%3, s.number), s.patchOf(1+u%4, u, s.number))
		flat, straight, point := s.patchOf(u, 2, s.number), s.patchOf(2, u, s.simple), s.patchOf(u, 3, s.simple)
		for _, p := range polesOf(flat) {
			p.P[1] = num("2/3")
		}
		for _, p := range polesOf(straight) {
			p.P[1], p.P[2] = api.Rat{}, p.P[0]
		}
		for _, p := range polesOf(point) {
			p.P = point.Poles[0][0].P
		}
		out = append(out, flat, straight, point)
		for n := range 16 {
			if n%6 == u-1 {
				out = append(out, withPoints(s.patchOf(u, 1+n%4, s.simple), n))
			}
		}
	}
	return out
}

// sidesOf returns the poles on the sides: those with the least u, the greatest u, the
// least v and the greatest v.
func sidesOf(s api.Surface) [4][]*api.Pole {
	var out [4][]*api.Pole
	for i, row := range s.Poles {
		for j := range row {
			for k, on := range [4]bool{i == 0, i == len(s.Poles)-1, j == 0, j == len(row)-1} {
				if on {
					out[k] = append(out[k], &row[j])
				}
			}
		}
	}
	return out
}

// withPoints returns a patch of which those sides are single points for which a number has
// the bit 1. Sides that meet are the same point.
func withPoints(s api.Surface, sides int) api.Surface {
	for k, poles := range sidesOf(s) {
		point := poles[0].P
		if sides&3 != 0 && sides&12 != 0 {
			point = s.Poles[0][0].P
		}
		if sides>>k&1 == 1 {
			for _, p := range poles {
				p.P = point
			}
		}
	}
	return copyOf(s)
}

// polesOf returns pointers to all poles.
func polesOf(s api.Surface) []*api.Pole {
	var out []*api.Pole
	for _, row := range s.Poles {
		for j := range row {
			out = append(out, &row[j])
		}
	}
	return out
}

// overUnit reads a patch over 0 to 1 in both directions. There are semicolons between
// the poles of a row, and strokes between rows.
func overUnit(poles string) api.Surface {
	s := api.Surface{}
	for _, row := range strings.Split(poles, "|") {
		s.Poles = append(s.Poles, each(strings.Split(row, ";"), func(text string) api.Pole {
			l := list(text)
			return api.Pole{P: api.Point(l[:3]), W: l[3]}
		}))
	}
	s.U, s.V = len(s.Poles)-1, len(s.Poles[0])-1
	return over(s, "0 1", "0 1")
}

// over returns the patch over another domain.
func over(s api.Surface, u, v string) api.Surface {
	knots := func(ends string, degree int) []api.Rat {
		l := list(ends)
		return slices.Concat(slices.Repeat(l[:1], degree+1), slices.Repeat(l[1:], degree+1))
	}
	s.KnotsU, s.KnotsV = knots(u, s.U), knots(v, s.V)
	return s
}

// square is the unit square in the plane z = 0.
func square() api.Surface { return overUnit("0 0 0 1; 0 1 0 1 | 1 0 0 1; 1 1 0 1") }

// saddle is the bilinear patch of the chapter's examples.
func saddle() api.Surface { return overUnit("0 0 0 1; 0 1 0 1 | 1 0 0 1; 1 1 1 1") }

// cone is a quarter of one: v runs from its top to a quarter of a circle.
func cone() api.Surface {
	return overUnit("0 0 3 1; 1 0 0 1 | 0 0 3 1; 1 1 0 1 | 0 0 3 2; 0 1 0 2")
}

// octant is an eighth of a sphere, with one side at its pole.
func octant() api.Surface {
	return overUnit("1 0 0 1; 1 0 1 1; 0 0 1 2 | 1 1 0 1; 1 1 1 1; 0 0 1 2 | 0 1 0 2; 0 1 1 2; 0 0 1 4")
}

// hill has inner knots in both directions.
func hill() api.Surface {
	s := overUnit("0 0 0 1; 0 1 0 2; 0 3 1 1 | 1 0 1 1; 1 1 4 1/3; 1 3 1 2 | 2 0 1 3; 2 1 -5 1; 2 3 1 1 | 4 0 0 1; 4 1 0 1; 4 3 1/2 5")
	s.U, s.V, s.KnotsU, s.KnotsV = 2, 1, list("0 0 0 1 3 3 3"), list("0 0 1 2 2")
	return s
}

// numbersOf returns pointers to all numbers of a surface.
func numbersOf(s api.Surface) []*api.Rat {
	var out []*api.Rat
	for _, k := range [2][]api.Rat{s.KnotsU, s.KnotsV} {
		for i := range k {
			out = append(out, &k[i])
		}
	}
	for _, p := range polesOf(s) {
		out = append(out, &p.P[0], &p.P[1], &p.P[2], &p.W)
	}
	return out
}

// copyOf returns a surface with memory of its own.
func copyOf(s api.Surface) api.Surface {
	s.KnotsU, s.KnotsV, s.Poles = slices.Clone(s.KnotsU), slices.Clone(s.KnotsV), each(s.Poles, slices.Clone)
	for _, r := range numbersOf(s) {
		r.Num, r.Den = slices.Clone(r.Num), slices.Clone(r.Den)
	}
	return s
}

// showSurface returns a surface as a text.
func showSurface(s api.Surface) string {
	pole := func(p api.Pole) string { return showPoint(p.P) + " " + show(p.W) }
	rows := each(s.Poles, func(row []api.Pole) string { return strings.Join(each(row, pole), "; ") })
	return strconv.Itoa(s.U) + " " + strconv.Itoa(s.V) + ": " + show(s.KnotsU...) + ": " + show(s.KnotsV...) + ": " + strings.Join(rows, " | ")
}
