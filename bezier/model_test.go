package bezier_test

import (
	"math/big"
	"slices"
	"strconv"
	"strings"

	"brepkernel/api"
)

// powers are the coefficients of 1, x, x^2 and so on.
type powers []*big.Rat

func (p powers) at(x *big.Rat) *big.Rat {
	sum := new(big.Rat)
	for _, c := range slices.Backward(p) {
		sum = plus(times(sum, x), c)
	}
	return sum
}

func (p powers) plus(q powers) powers {
	out := slices.Clone(p)
	for i, c := range q {
		if i == len(out) {
			out = append(out, new(big.Rat))
		}
		out[i] = plus(out[i], c)
	}
	return out
}

func (p powers) times(q powers) powers {
	var out powers
	for range len(p) + len(q) - 1 {
		out = append(out, new(big.Rat))
	}
	for i, x := range p {
		for j, y := range q {
			out[i+j] = plus(out[i+j], times(x, y))
		}
	}
	return out
}

func (p powers) scaled(x *big.Rat) powers { return p.times(powers{x}) }

func (p powers) derivative() powers {
	out := powers{}
	for i := 1; i < len(p); i++ {
		out = append(out, times(p[i], big.NewRat(int64(i), 1)))
	}
	return out
}

// of returns p(q(x)).
func (p powers) of(q powers) powers {
	var sum powers
	for _, c := range slices.Backward(p) {
		sum = sum.times(q).plus(powers{c})
	}
	return sum
}

func binomial(n, k int) *big.Rat {
	return new(big.Rat).SetInt(new(big.Int).Binomial(int64(n), int64(k)))
}

// fromBernstein returns the sum of c[i] C(n, i) x^i (1 - x)^(n - i).
func fromBernstein(c []*big.Rat) powers {
	n := len(c) - 1
	var sum powers
	for i, b := range c {
		term := powers{times(b, binomial(n, i))}
		for j := range n {
			if j < i {
				term = term.times(powers{new(big.Rat), big.NewRat(1, 1)})
			} else {
				term = term.times(powers{big.NewRat(1, 1), big.NewRat(-1, 1)})
			}
		}
		sum = sum.plus(term)
	}
	return sum
}

// bernstein returns the coefficients with the formal degree n, which are the values of
// the polar form at lists of 0 and 1.
func (p powers) bernstein(n int) []*big.Rat {
	var out []*big.Rat
	for k := range n + 1 {
		sum := new(big.Rat)
		for j, c := range p {
			if j <= k {
				sum = plus(sum, times(c, quotient(binomial(k, j), binomial(n, j))))
			}
		}
		out = append(out, sum)
	}
	return out
}

// model is a Bezier curve by its homogeneous functions of the own parameter.
type model struct {
	degree int
	lo, hi *big.Rat
	forms  [4]powers
}

func modelOf(c api.Curve) model {
	m := model{degree: c.Degree, lo: value(c.Knots[0]), hi: value(c.Knots[len(c.Knots)-1])}
	for i, l := range coefficients(c) {
		m.forms[i] = fromBernstein(l)
	}
	return m
}

// coefficients returns W x, W y, W z and W of the poles.
func coefficients(c api.Curve) [4][]*big.Rat {
	var out [4][]*big.Rat
	for _, p := range c.Poles {
		for i := range 3 {
			out[i] = append(out[i], times(value(p.W), value(p.P[i])))
		}
		out[3] = append(out[3], value(p.W))
	}
	return out
}

func (m model) width() *big.Rat { return minus(m.hi, m.lo) }

// own returns the own parameter.
func (m model) own(t *big.Rat) *big.Rat { return quotient(minus(t, m.lo), m.width()) }

// slope returns n' w - n w' for the numerator n of a coordinate.
func (m model) slope(i int) powers {
	n, w := m.forms[i], m.forms[3]
	return n.derivative().times(w).plus(n.times(w.derivative()).scaled(big.NewRat(-1, 1)))
}

// slopes returns the coefficients of slope, with the formal degree that a product of a
// derivative and a polynomial has.
func (m model) slopes(i int) []*big.Rat { return m.slope(i).bernstein(2*m.degree - 1) }

// point returns the point at a parameter.
func (m model) point(t *big.Rat) [3]*big.Rat {
	var out [3]*big.Rat
	for i := range out {
		out[i] = quotient(m.forms[i].at(m.own(t)), m.forms[3].at(m.own(t)))
	}
	return out
}

// tangent returns the derivative at a parameter.
func (m model) tangent(t *big.Rat) [3]*big.Rat {
	x := m.own(t)
	w := m.forms[3].at(x)
	var out [3]*big.Rat
	for i := range out {
		out[i] = quotient(quotient(m.slope(i).at(x), times(w, w)), m.width())
	}
	return out
}

// speed returns the bounds that P11.3 describes for a coordinate. The square of the
// weight is positive: the quotients of the ends are those that count.
func (m model) speed(i int) (*big.Rat, *big.Rat) {
	w := m.forms[3].bernstein(m.degree)
	var all []*big.Rat
	for _, q := range []*big.Rat{least(m.slopes(i)), greatest(m.slopes(i))} {
		for _, x := range []*big.Rat{least(w), greatest(w)} {
			all = append(all, quotient(quotient(q, times(x, x)), m.width()))
		}
	}
	return least(all), greatest(all)
}

// advance returns the answer that P11.4 describes.
func (m model) advance(d api.Point) int {
	sum := powers{}
	for i := range 3 {
		sum = sum.plus(m.slope(i).scaled(value(d[i])))
	}
	q := sum.bernstein(2*m.degree - 1)
	switch {
	case least(q).Sign() > 0:
		return api.Yes
	case greatest(q).Sign() <= 0:
		return api.No
	}
	return api.Open
}

// cut returns the part between two parameters.
func (m model) cut(a, b *big.Rat) api.Curve {
	out := api.Curve{Degree: m.degree}
	for _, x := range []*big.Rat{a, b} {
		out.Knots = append(out.Knots, slices.Repeat([]api.Rat{rat(x)}, m.degree+1)...)
	}
	inner := powers{m.own(a), minus(m.own(b), m.own(a))}
	var parts [4][]*big.Rat
	for i, p := range m.forms {
		parts[i] = p.of(inner).bernstein(m.degree)
	}
	for j, w := range parts[3] {
		pole := api.Pole{W: rat(w)}
		for i := range pole.P {
			pole.P[i] = rat(quotient(parts[i][j], w))
		}
		out.Poles = append(out.Poles, pole)
	}
	return out
}

// parameters returns the ends of the domain and some numbers between them.
func (m model) parameters() []*big.Rat {
	return each(exact("0 1/1000003 1/8 1/3 1/2 5/7 15/16 1"), func(x *big.Rat) *big.Rat { return between(m.lo, m.hi, x) })
}

// outside returns parameters below and above the domain.
func (m model) outside() []*big.Rat {
	var out []*big.Rat
	for _, x := range exact("1 1/1000000007 1e-300 1e300") {
		out = append(out, minus(m.lo, x), plus(m.hi, x))
	}
	return out
}

// bezierOf returns a curve of some degree. A third of the curves have equal weights.
func (s *source) bezierOf(degree int, next func() *big.Rat) api.Curve {
	lo := next()
	hi := plus(lo, s.positive())
	c := api.Curve{Degree: degree}
	for _, x := range []*big.Rat{lo, hi} {
		c.Knots = append(c.Knots, slices.Repeat([]api.Rat{rat(x)}, degree+1)...)
	}
	equalWeights, weight := s.below(3) == 0, s.positive()
	for range degree + 1 {
		if !equalWeights {
			weight = s.positive()
		}
		c.Poles = append(c.Poles, api.Pole{P: api.Point{rat(next()), rat(next()), rat(next())}, W: rat(weight)})
	}
	return c
}

// curves returns some of each degree, also such that end where they begin, that lie on
// a line, or that are one point.
func curves() []api.Curve {
	s := source(1)
	out := []api.Curve{quarter(), parabola(), overUnit("0 0 0 1; 2 0 0 1"), overUnit("0 0 0 1; 0 0 0 3")}
	for degree := 1; degree <= api.MaxDegree; degree++ {
		for range 5 {
			out = append(out, s.bezierOf(degree, s.number), s.bezierOf(degree, s.simple))
		}
		closed, straight, point, plane := s.bezierOf(degree, s.number), s.bezierOf(degree, s.number), s.bezierOf(degree, s.number), s.bezierOf(degree, s.simple)
		closed.Poles[degree].P = closed.Poles[0].P
		for i := range degree + 1 {
			straight.Poles[i].P = api.Point{rat(big.NewRat(int64(i), 3)), num("2"), rat(big.NewRat(int64(2*i), 3))}
			point.Poles[i].P = point.Poles[0].P
			plane.Poles[i].P[2] = api.Rat{}
		}
		out = append(out, closed, straight, point, plane)
	}
	return out
}

// overUnit reads a curve over 0 to 1. There are semicolons between its poles.
func overUnit(poles string) api.Curve {
	c := api.Curve{}
	for _, text := range strings.Split(poles, ";") {
		l := list(text)
		c.Poles = append(c.Poles, api.Pole{P: api.Point(l[:3]), W: l[3]})
	}
	c.Degree = len(c.Poles) - 1
	for _, x := range []string{"0", "1"} {
		c.Knots = append(c.Knots, slices.Repeat(list(x), len(c.Poles))...)
	}
	return c
}

// quarter is the quarter of a circle.
func quarter() api.Curve { return overUnit("1 0 0 1; 1 1 0 1; 0 1 0 2") }

// parabola is the one of the chapter's examples.
func parabola() api.Curve { return overUnit("0 0 0 1; 1 1 0 1; 2 0 0 1") }

// wave has an inner knot.
func wave() api.Curve {
	c := overUnit("0 0 0 1; 1 2 0 1; 3 -1 1 2; 4 0 1/2 1/3")
	c.Degree, c.Knots = 2, list("0 0 0 1 3 3 3")
	return c
}

// copyOf returns a curve whose lists are others.
func copyOf(c api.Curve) api.Curve {
	return api.Curve{Degree: c.Degree, Knots: slices.Clone(c.Knots), Poles: slices.Clone(c.Poles)}
}

// numbersOf returns pointers to all numbers of a curve.
func numbersOf(c api.Curve) []*api.Rat {
	var out []*api.Rat
	for i := range c.Knots {
		out = append(out, &c.Knots[i])
	}
	for i := range c.Poles {
		p := &c.Poles[i]
		out = append(out, &p.P[0], &p.P[1], &p.P[2], &p.W)
	}
	return out
}

// showCurve returns a curve as a text.
func showCurve(c api.Curve) string {
	poles := each(c.Poles, func(p api.Pole) string { return showPoint(p.P) + " " + show(p.W) })
	return strconv.Itoa(c.Degree) + ": " + show(c.Knots...) + ": " + strings.Join(poles, "; ")
}
