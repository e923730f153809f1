package shapes_test

import (
	"math/big"
	"slices"
	"strconv"
	"strings"
	"testing"

	"brepkernel/api"
	"brepkernel/curve"
	"brepkernel/rational"
	"brepkernel/surface"
)

// vec is a point of numbers of math/big.
type vec [3]*big.Rat

func vecOf(p api.Point) vec { return vec{value(p[0]), value(p[1]), value(p[2])} }

func (p vec) point() api.Point { return api.Point{rat(p[0]), rat(p[1]), rat(p[2])} }

func (p vec) plus(q vec) vec { return vec{plus(p[0], q[0]), plus(p[1], q[1]), plus(p[2], q[2])} }

func (p vec) times(x *big.Rat) vec { return vec{times(x, p[0]), times(x, p[1]), times(x, p[2])} }

func (p vec) minus(q vec) vec { return p.plus(q.times(whole(-1))) }

// square returns the square of the length.
func (p vec) square() *big.Rat {
	return plus(plus(times(p[0], p[0]), times(p[1], p[1])), times(p[2], p[2]))
}

// mean returns the mean of points with weights.
func mean(points []vec, weights []*big.Rat) vec {
	sum, all := vec{whole(0), whole(0), whole(0)}, whole(0)
	for i, p := range points {
		sum, all = sum.plus(p.times(weights[i])), plus(all, weights[i])
	}
	return sum.times(over(whole(1), all))
}

// quarterAt returns the point of the quarter circle at t: its direction has half the
// angle.
func quarterAt(t *big.Rat) vec {
	square := times(t, t)
	all := plus(whole(1), square)
	return vec{over(minus(whole(1), square), all), over(plus(t, t), all), whole(0)}
}

// circleAt returns the point of the unit circle at quarter + t. Every second quarter is
// the mirror image of the one before it.
func circleAt(quarter int, t *big.Rat) vec {
	p := quarterAt(t)
	if quarter%2 == 1 {
		q := quarterAt(minus(whole(1), t))
		p = vec{q[1], q[0], whole(0)}
	}
	for range quarter {
		p = vec{minus(whole(0), p[1]), p[0], p[2]}
	}
	return p
}

// turned returns the point (x, y, z), turned and stretched so that (1, 0) comes to q.
func (p vec) turned(q vec) vec {
	return vec{minus(times(p[0], q[0]), times(p[1], q[1])), plus(times(p[0], q[1]), times(p[1], q[0])), p[2]}
}

// shares returns some numbers from 0 to 1.
func shares() []*big.Rat {
	return append(exact("0 1/2 1 1/3 9/10 1/1000003"), over(whole(1), whole(1).SetFrac(new(big.Int).Lsh(big.NewInt(1), 100), big.NewInt(3))))
}

// samples returns the different knots, and numbers between each two of them.
func samples(knots []api.Rat) []*big.Rat {
	var all []*big.Rat
	for _, r := range knots {
		all = append(all, value(r))
	}
	all = distinct(all)
	out := slices.Clone(all)
	for i := range len(all) - 1 {
		for _, share := range exact("1/2 2/7 1/1000003") {
			out = append(out, between(all[i], all[i+1], share))
		}
	}
	return out
}

// point returns one with random coordinates.
func (s *source) point() api.Point {
	return api.Point{rat(s.number()), rat(s.number()), rat(s.number())}
}

// points returns some points, which may be equal.
func (s *source) points(n int) []api.Point {
	var out []api.Point
	for range n {
		if len(out) > 0 && s.below(5) == 0 {
			out = append(out, out[s.below(len(out))])
			continue
		}
		out = append(out, s.point())
	}
	return out
}

// curve returns one with inner knots, each up to degree times.
func (s *source) curve(degree, inner int) api.Curve {
	c := api.Curve{Degree: degree}
	for i, x := range s.ascending(inner + 2) {
		n := 1 + s.below(degree)
		if i == 0 || i == inner+1 {
			n = degree + 1
		}
		c.Knots = append(c.Knots, slices.Repeat([]api.Rat{rat(x)}, n)...)
	}
	return s.withKnots(degree, c.Knots)
}

// withKnots returns a curve with these knots. A third of the curves have equal weights.
func (s *source) withKnots(degree int, knots []api.Rat) api.Curve {
	c := api.Curve{Degree: degree, Knots: slices.Clone(knots)}
	equalWeights := s.below(3) == 0
	for range len(knots) - degree - 1 {
		w := s.positive()
		if equalWeights {
			w = whole(1)
		}
		c.Poles = append(c.Poles, api.Pole{P: s.point(), W: rat(w)})
	}
	return c
}

// curves returns some of each degree, with and without inner knots, one with the most
// poles, and some special ones.
func curves() []api.Curve {
	s := source(1)
	var out []api.Curve
	for degree := 1; degree <= api.MaxDegree; degree++ {
		for _, inner := range []int{0, 1, 3} {
			out = append(out, s.curve(degree, inner))
		}
	}
	var most []*big.Rat
	for n := range api.MaxPoles + 4 {
		most = append(most, whole(min(max(n, 3), api.MaxPoles)))
	}
	return append(out, s.withKnots(3, rats(most)), quarter(), wave(), upright())
}

// curveOf reads a curve. There are semicolons between its poles.
func curveOf(degree int, knots, poles string) api.Curve {
	c := api.Curve{Degree: degree, Knots: list(knots)}
	for _, text := range strings.Split(poles, ";") {
		l := list(text)
		c.Poles = append(c.Poles, api.Pole{P: api.Point{l[0], l[1], l[2]}, W: l[3]})
	}
	return c
}

// quarter is the one of P14.2.
func quarter() api.Curve {
	return curveOf(2, "0 0 0 1 1 1", "1 0 0 1; 1 1 0 1; 0 1 0 2")
}

// wave has an inner knot, and knots that do not begin at 0.
func wave() api.Curve {
	return curveOf(2, "-1 -1 -1 1/2 3 3 3", "0 0 0 1; 1 2 0 1; 3 -1 1 2; 4 0 1/2 1/3")
}

// upright is the segment of the chapter's example.
func upright() api.Curve {
	return curveOf(1, "0 0 1 1", "1 0 0 1; 1 0 1 1")
}

// showCurve returns a curve as a text.
func showCurve(c api.Curve) string {
	return strconv.Itoa(c.Degree) + ": " + show(c.Knots...) + ": " + showPoles(c.Poles)
}

// showSurface returns a surface as a text, with strokes between its rows.
func showSurface(s api.Surface) string {
	var rows []string
	for _, row := range s.Poles {
		rows = append(rows, showPoles(row))
	}
	return strconv.Itoa(s.U) + " " + strconv.Itoa(s.V) + ": " + show(s.KnotsU...) + ": " + show(s.KnotsV...) + ": " + strings.Join(rows, " | ")
}

func showPoles(list []api.Pole) string {
	var words []string
	for _, p := range list {
		words = append(words, show(p.P[0], p.P[1], p.P[2], p.W))
	}
	return strings.Join(words, "; ")
}

func showMap(m api.Map) string {
	return showPoint(m.M[0]) + "; " + showPoint(m.M[1]) + "; " + showPoint(m.M[2]) + " + " + showPoint(m.T)
}

// curveAt returns a point of a curve.
func curveAt(t *testing.T, c api.Curve, x *big.Rat) vec {
	t.Helper()
	p, e := curve.Eval(c, rat(x))
	expectError(t, "curve.Eval at "+x.RatString(), e, api.OK)
	return vecOf(p)
}

// surfaceAt returns a point of a surface.
func surfaceAt(t *testing.T, s api.Surface, u, v *big.Rat) vec {
	t.Helper()
	p, e := surface.Eval(s, rat(u), rat(v))
	expectError(t, "surface.Eval at "+u.RatString()+", "+v.RatString(), e, api.OK)
	return vecOf(p)
}

// expectVec compares points.
func expectVec(t *testing.T, what string, got, want vec) {
	t.Helper()
	for i := range got {
		if !equal(got[i], want[i]) {
			t.Fatalf("%s: %s; expected %s", what, showPoint(got.point()), showPoint(want.point()))
		}
	}
}

// expectNumber compares numbers.
func expectNumber(t *testing.T, what string, got, want *big.Rat) {
	t.Helper()
	if !equal(got, want) {
		t.Fatalf("%s: %s; expected %s", what, got.RatString(), want.RatString())
	}
}

// expectCurve looks whether a curve is valid and is shown as this text.
func expectCurve(t *testing.T, what string, got api.Curve, want string) {
	t.Helper()
	expectText(t, what, showCurve(got), want)
	expectError(t, "curve.Check of "+what, curve.Check(got), api.OK)
}

// expectSurface looks the same of a surface.
func expectSurface(t *testing.T, what string, got api.Surface, want string) {
	t.Helper()
	expectText(t, what, showSurface(got), want)
	expectError(t, "surface.Check of "+what, surface.Check(got), api.OK)
}

// expectNoCurve looks whether a curve that is returned with an error is zero.
func expectNoCurve(t *testing.T, what string, got api.Curve) {
	t.Helper()
	if got.Degree != 0 || len(got.Knots) > 0 || len(got.Poles) > 0 {
		t.Fatalf("%s: %s", what, showCurve(got))
	}
}

// expectNoSurface looks the same of a surface.
func expectNoSurface(t *testing.T, what string, got api.Surface) {
	t.Helper()
	if got.U != 0 || got.V != 0 || len(got.KnotsU) > 0 || len(got.KnotsV) > 0 || len(got.Poles) > 0 {
		t.Fatalf("%s: %s", what, showSurface(got))
	}
}

// expectValid looks whether numbers are valid.
func expectValid(t *testing.T, what string, all []*api.Rat) {
	t.Helper()
	for _, r := range all {
		if !rational.Valid(*r) {
			t.Fatalf("%s: %v", what, *r)
		}
	}
}
