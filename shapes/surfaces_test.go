package shapes_test

import (
	"math"
	"math/big"
	"slices"
	"strconv"
	"strings"
	"testing"

	"brepkernel/api"
	"brepkernel/curve"
	"brepkernel/shapes"
	"brepkernel/surface"
	"brepkernel/vector"
)

// P14.3

func TestBilinear(t *testing.T) {
	saddle := shapes.Bilinear(pt("0 0 0"), pt("1 0 0"), pt("0 1 0"), pt("1 1 1"))
	expectSurface(t, "Bilinear", saddle, "1 1: 0 0 1 1: 0 0 1 1: 0 0 0 1; 0 1 0 1 | 1 0 0 1; 1 1 1 1")
	expectVec(t, "the middle", surfaceAt(t, saddle, big.NewRat(1, 2), big.NewRat(1, 2)), vecOf(pt("1/2 1/2 1/4")))
	point := shapes.Bilinear(pt("1 2 3"), pt("1 2 3"), pt("1 2 3"), pt("1 2 3"))
	expectSurface(t, "Bilinear of a point", point, "1 1: 0 0 1 1: 0 0 1 1: 1 2 3 1; 1 2 3 1 | 1 2 3 1; 1 2 3 1")
	s := source(11)
	for range 50 {
		p := [4]api.Point{s.point(), s.point(), s.point(), s.point()}
		x := shapes.Bilinear(p[0], p[1], p[2], p[3])
		expectSurface(t, "Bilinear", x, "1 1: 0 0 1 1: 0 0 1 1: "+showPoint(p[0])+" 1; "+showPoint(p[2])+" 1 | "+showPoint(p[1])+" 1; "+showPoint(p[3])+" 1")
		corners := []vec{vecOf(p[0]), vecOf(p[1]), vecOf(p[2]), vecOf(p[3])}
		for _, u := range shares() {
			for _, v := range shares() {
				x0, x1 := minus(whole(1), u), minus(whole(1), v)
				weights := []*big.Rat{times(x0, x1), times(u, x1), times(x0, v), times(u, v)}
				expectVec(t, "a point of Bilinear", surfaceAt(t, x, u, v), mean(corners, weights))
			}
		}
	}
}

// ruledText returns what Ruled should be shown as.
func ruledText(c, d api.Curve) string {
	return strings.Replace(showCurve(c), ": ", ": 0 0 1 1: ", 1) + " | " + showPoles(d.Poles)
}

func TestRuled(t *testing.T) {
	heavy := quarter()
	heavy.Poles[1].W = num("7/3")
	s, e := shapes.Ruled(quarter(), heavy)
	expectError(t, "Ruled", e, api.OK)
	expectSurface(t, "Ruled", s, "1 2: 0 0 1 1: 0 0 0 1 1 1: 1 0 0 1; 1 1 0 1; 0 1 0 2 | 1 0 0 1; 1 1 0 7/3; 0 1 0 2")
	numbers := source(12)
	for _, c := range curves() {
		d := numbers.withKnots(c.Degree, c.Knots)
		s, e := shapes.Ruled(c, d)
		expectError(t, "Ruled", e, api.OK)
		expectSurface(t, "Ruled", s, "1 "+ruledText(c, d))
		for i, row := range [2]api.Curve{c, d} {
			line, e := surface.IsoU(s, num([2]string{"0", "1"}[i]))
			expectError(t, "IsoU", e, api.OK)
			expectText(t, "a side of Ruled", showCurve(line), showCurve(row))
		}
	}
}

// Segments between points with the same parameter, which the weights divide.
func TestRuledPoints(t *testing.T) {
	numbers := source(13)
	for _, c := range []api.Curve{quarter(), wave(), curves()[3]} {
		d := numbers.withKnots(c.Degree, c.Knots)
		s, _ := shapes.Ruled(c, d)
		for _, v := range samples(c.Knots) {
			a, b := curveAt(t, c, v), curveAt(t, d, v)
			weights := []*big.Rat{weightAt(t, c, v), weightAt(t, d, v)}
			for _, u := range shares() {
				both := []*big.Rat{times(minus(whole(1), u), weights[0]), times(u, weights[1])}
				expectVec(t, "a point of Ruled", surfaceAt(t, s, u, v), mean([]vec{a, b}, both))
			}
		}
	}
}

// weightAt returns the weight of a curve at a parameter. The curve whose points are the
// weights, all with the weight 1, has it as its first coordinate.
func weightAt(t *testing.T, c api.Curve, x *big.Rat) *big.Rat {
	t.Helper()
	out := api.Curve{Degree: c.Degree, Knots: c.Knots}
	for _, p := range c.Poles {
		out.Poles = append(out.Poles, api.Pole{P: api.Point{p.W}, W: num("1")})
	}
	return curveAt(t, out, x)[0]
}

func TestRuledOfOtherKnots(t *testing.T) {
	long := list("123456789012345678901234567890/7 123456789012345678901234567891/7 -123456789012345678901234567890/7 123456789012345678901234567890/11")
	var apart []api.Curve
	for _, knots := range [][]api.Rat{
		list("0 0 1 1"), list("0 0 2 2"), list("-1 -1 1 1"), list("0 0 1/2 1 1"), list("0 0 1/3 1 1"), list("0 0 1/3 1/2 1 1"), list("-1/2 -1/2 1/2 1/2"),
		list("0 0 1/2 2/3 1 1"), {long[2], long[2], long[0], long[0]}, {long[2], long[2], long[1], long[1]}, {long[2], long[2], long[3], long[3]},
	} {
		c := api.Curve{Degree: 1, Knots: knots}
		for range len(knots) - 2 {
			c.Poles = append(c.Poles, api.Pole{P: pt("1 2 3"), W: num("1")})
		}
		apart = append(apart, c)
	}
	apart = append(apart, quarter(), wave(), curveOf(3, "0 0 0 0 1 1 1 1", "0 0 0 1; 1 0 0 1; 2 0 0 1; 3 0 0 1"),
		curveOf(2, "0 0 0 1/2 1 1 1", "0 0 0 1; 1 0 0 1; 2 0 0 1; 3 0 0 1"), curveOf(2, "0 0 0 1/2 1/2 1 1 1", "0 0 0 1; 1 0 0 1; 2 0 0 1; 3 0 0 1; 4 0 0 1"))
	for i, c := range apart {
		expectError(t, "curve.Check", curve.Check(c), api.OK)
		for j, d := range apart {
			s, e := shapes.Ruled(c, d)
			if i == j {
				expectError(t, "Ruled of "+showCurve(c)+" and itself", e, api.OK)
				continue
			}
			expectError(t, "Ruled of "+showCurve(c)+" and "+showCurve(d), e, api.ErrKnots)
			expectNoSurface(t, "Ruled", s)
		}
	}
}

func TestExtrude(t *testing.T) {
	s := shapes.Extrude(quarter(), pt("1 0 4"))
	expectSurface(t, "Extrude", s, "1 2: 0 0 1 1: 0 0 0 1 1 1: 1 0 0 1; 1 1 0 1; 0 1 0 2 | 2 0 4 1; 2 1 4 1; 1 1 4 2")
	expectVec(t, "a point", surfaceAt(t, s, big.NewRat(1, 4), big.NewRat(1, 2)), vecOf(pt("17/20 4/5 1")))
	numbers := source(14)
	for i, c := range curves() {
		v := numbers.point()
		if i == 0 {
			v = api.Point{}
		}
		d := c
		d.Poles = slices.Clone(c.Poles)
		for j, p := range c.Poles {
			d.Poles[j].P = vecOf(p.P).plus(vecOf(v)).point()
		}
		s := shapes.Extrude(c, v)
		expectSurface(t, "Extrude", s, "1 "+ruledText(c, d))
		for _, x := range samples(c.Knots) {
			for _, u := range shares() {
				expectVec(t, "a point of Extrude", surfaceAt(t, s, u, x), curveAt(t, c, x).plus(vecOf(v).times(u)))
			}
		}
	}
}

// P14.4

// rows are the points of P14.4 for a pole, and their weights.
func rows(p vec) ([]vec, []int) {
	x, y, z := p[0], p[1], p[2]
	neg := func(a *big.Rat) *big.Rat { return minus(whole(0), a) }
	_, weights := circlePoles()
	return []vec{
		{x, y, z}, {minus(x, y), plus(x, y), z}, {neg(y), x, z}, {minus(neg(x), y), minus(x, y), z}, {neg(x), neg(y), z},
		{plus(neg(x), y), minus(neg(x), y), z}, {y, neg(x), z}, {plus(x, y), plus(neg(x), y), z}, {x, y, z},
	}, weights
}

// revolvedText returns what Revolve should be shown as.
func revolvedText(c api.Curve, quarters int) string {
	knots := "2 " + strings.Replace(showCurve(c), ": ", ": "+[]string{"0 0 0 1 1 1", "0 0 0 1 1 2 2 2", "0 0 0 1 1 2 2 3 3 3", "0 0 0 1 1 2 2 3 3 4 4 4"}[quarters-1]+": ", 1)
	var out []string
	for i := range 2*quarters + 1 {
		var row []api.Pole
		for _, p := range c.Poles {
			points, weights := rows(vecOf(p.P))
			row = append(row, api.Pole{P: points[i].point(), W: rat(times(value(p.W), whole(weights[i])))})
		}
		out = append(out, showPoles(row))
	}
	return strings.TrimSuffix(knots, showPoles(c.Poles)) + strings.Join(out, " | ")
}

func TestRevolve(t *testing.T) {
	cylinder, e := shapes.Revolve(upright(), 4)
	expectError(t, "Revolve", e, api.OK)
	expectSurface(t, "a cylinder", cylinder, "2 1: 0 0 0 1 1 2 2 3 3 4 4 4: 0 0 1 1: 1 0 0 1; 1 0 1 1 | 1 1 0 1; 1 1 1 1 | 0 1 0 2; 0 1 1 2 | -1 1 0 1; -1 1 1 1 | "+
		"-1 0 0 1; -1 0 1 1 | -1 -1 0 1; -1 -1 1 1 | 0 -1 0 2; 0 -1 1 2 | 1 -1 0 1; 1 -1 1 1 | 1 0 0 1; 1 0 1 1")
	slant := curveOf(1, "0 0 1 1", "2 1 0 1; 3 -1/2 5 3")
	s, e := shapes.Revolve(slant, 1)
	expectError(t, "Revolve", e, api.OK)
	expectSurface(t, "a quarter", s, "2 1: 0 0 0 1 1 1: 0 0 1 1: 2 1 0 1; 3 -1/2 5 3 | 1 3 0 1; 7/2 5/2 5 3 | -1 2 0 2; 1/2 3 5 6")
	for _, c := range curves() {
		for n := 1; n <= 4; n++ {
			s, e := shapes.Revolve(c, n)
			expectError(t, "Revolve", e, api.OK)
			expectSurface(t, "Revolve", s, revolvedText(c, n))
		}
	}
}

// The surface has the points of the curve, turned by the angles of the circle, and they
// keep z and the distance from the axis.
func TestRevolvePoints(t *testing.T) {
	all := curves()
	for _, c := range []api.Curve{all[1], all[4], quarter(), wave(), upright()} {
		for n := 1; n <= 4; n++ {
			s, _ := shapes.Revolve(c, n)
			for _, v := range samples(c.Knots) {
				p := curveAt(t, c, v)
				flat := vec{p[0], p[1], whole(0)}
				for i := range n {
					for _, x := range shares() {
						q := surfaceAt(t, s, plus(whole(i), x), v)
						expectVec(t, "a point of Revolve", q, p.turned(circleAt(i, x)))
						expectNumber(t, "z", q[2], p[2])
						expectNumber(t, "the square of the distance from the axis", vec{q[0], q[1], whole(0)}.square(), flat.square())
					}
				}
			}
			_, e := surface.Eval(s, rat(plus(whole(n), big.NewRat(1, 1000003))), c.Knots[0])
			expectError(t, "a point behind the end", e, api.ErrRange)
		}
	}
}

// The curve is where u is 0, and where it is 4; its circles are those of package shapes.
func TestRevolveLines(t *testing.T) {
	for _, c := range curves() {
		s, _ := shapes.Revolve(c, 4)
		for _, u := range list("0 4") {
			line, e := surface.IsoU(s, u)
			expectError(t, "IsoU", e, api.OK)
			expectText(t, "the curve", showCurve(line), showCurve(c))
		}
	}
	slant := curveOf(1, "0 0 1 1", "2 0 7 1; 5 0 9 1")
	s, _ := shapes.Revolve(slant, 4)
	line, e := surface.IsoV(s, num("1/3"))
	expectError(t, "IsoV", e, api.OK)
	circle, _ := shapes.Circle(pt("0 0 23/3"), num("3"))
	expectText(t, "a circle", showCurve(line), showCurve(circle))
}

// The surfaces of fewer quarters are parts of the whole one.
func TestRevolveParts(t *testing.T) {
	for _, c := range curves() {
		all, _ := shapes.Revolve(c, 4)
		_, v := surface.Domain(all)
		for n := 1; n <= 3; n++ {
			part, _ := shapes.Revolve(c, n)
			want, e := surface.Cut(all, api.Span{Lo: num("0"), Hi: rat(whole(n))}, v)
			expectError(t, "Cut", e, api.OK)
			expectText(t, "Revolve by fewer quarters", showSurface(part), showSurface(want))
		}
	}
}

func TestRevolveRange(t *testing.T) {
	for _, n := range []int{0, 5, -1, 6, 8, 100, math.MaxInt, math.MinInt, math.MaxInt/2 + 1, math.MinInt / 2, 1 << 32, 1<<32 + 1, -4} {
		for _, c := range slices.Concat(curves()[:2], []api.Curve{upright()}) {
			s, e := shapes.Revolve(c, n)
			expectError(t, "Revolve by "+strconv.Itoa(n), e, api.ErrRange)
			expectNoSurface(t, "Revolve by "+strconv.Itoa(n), s)
		}
	}
}

// Points on the axis stay there.
func TestRevolveOnAxis(t *testing.T) {
	s, e := shapes.Revolve(curveOf(1, "0 0 1 1", "0 0 1 1; 0 0 2 5"), 2)
	expectError(t, "Revolve", e, api.OK)
	expectSurface(t, "the axis", s, "2 1: 0 0 0 1 1 2 2 2: 0 0 1 1: 0 0 1 1; 0 0 2 5 | 0 0 1 1; 0 0 2 5 | 0 0 1 2; 0 0 2 10 | 0 0 1 1; 0 0 2 5 | 0 0 1 1; 0 0 2 5")
}

// P14.5

func TestRotation(t *testing.T) {
	for _, x := range [][2]string{
		{"0", "1 0 0; 0 1 0; 0 0 1 + 0 0 0"}, {"1", "0 -1 0; 1 0 0; 0 0 1 + 0 0 0"}, {"-1", "0 1 0; -1 0 0; 0 0 1 + 0 0 0"},
		{"1/2", "3/5 -4/5 0; 4/5 3/5 0; 0 0 1 + 0 0 0"}, {"-1/2", "3/5 4/5 0; -4/5 3/5 0; 0 0 1 + 0 0 0"}, {"3", "-4/5 -3/5 0; 3/5 -4/5 0; 0 0 1 + 0 0 0"},
	} {
		expectText(t, "Rotation by "+x[0], showMap(shapes.Rotation(num(x[0]))), x[1])
	}
	expectText(t, "the image of (1, 0, 0)", showPoint(vector.Apply(shapes.Rotation(num("1")), pt("1 0 0"))), "0 1 0")
	s := source(7)
	for i := range 100 {
		x := s.number()
		if i == 0 {
			x = s.long(2048)
		}
		m := shapes.Rotation(rat(x))
		q := quarterAt(x)
		c, sine := showPoint(q.point()), showPoint(vec{minus(whole(0), q[1]), q[0], whole(0)}.point())
		expectText(t, "the columns of Rotation", showPoint(column(m, 0))+"; "+showPoint(column(m, 1))+"; "+showPoint(column(m, 2))+" + "+showPoint(m.T), c+"; "+sine+"; 0 0 1 + 0 0 0")
		expectText(t, "the volume", show(vector.Volume(m)), "1")
		p, other := s.point(), s.point()
		expectVec(t, "an image", vecOf(vector.Apply(m, p)), vecOf(p).turned(q))
		expectNumber(t, "the square of a length", vecOf(vector.Apply(m, p)).minus(vecOf(vector.Apply(m, other))).square(), vecOf(p).minus(vecOf(other)).square())
		back := shapes.Rotation(rat(minus(whole(0), x)))
		expectText(t, "the turn and the turn back", showMap(vector.Compose(m, back)), showMap(vector.Identity()))
	}
}

func column(m api.Map, i int) api.Point { return api.Point{m.M[0][i], m.M[1][i], m.M[2][i]} }

// By twice the angle: where the tangent is t, the turn of half the angle goes through
// (1, t).
func TestRotationByHalves(t *testing.T) {
	for _, x := range exact("1/3 -2/7 5 1/1000003 2") {
		half := vec{whole(1), x, whole(0)}
		turned := vecOf(vector.Apply(shapes.Rotation(rat(x)), pt("1 0 0")))
		direction := half.turned(half)
		if cross := minus(times(direction[0], turned[1]), times(direction[1], turned[0])); cross.Sign() != 0 || plus(times(direction[0], turned[0]), times(direction[1], turned[1])).Sign() <= 0 {
			t.Errorf("Rotation by %s: %s", x.RatString(), showPoint(turned.point()))
		}
	}
}

// Consequences

// commuting returns maps that commute with turns about the z axis.
func commuting() []api.Map {
	s := source(15)
	turn := shapes.Rotation(rat(s.number()))
	lift := vector.Identity()
	lift.T[2] = num("7/3")
	stretch := api.Map{M: [3]api.Point{{num("3/2")}, {api.Rat{}, num("3/2")}, {api.Rat{}, api.Rat{}, num("-4/5")}}}
	return []api.Map{vector.Identity(), turn, lift, stretch, vector.Compose(stretch, vector.Compose(lift, turn))}
}

func TestMovedSurfaces(t *testing.T) {
	s := source(16)
	for i, c := range curves() {
		for _, m := range commuting() {
			n := 1 + i%4
			a, _ := shapes.Revolve(c, n)
			b, _ := shapes.Revolve(curve.Move(c, m), n)
			expectText(t, "the moved surface of revolution", showSurface(b), showSurface(surface.Move(a, m)))
		}
		m := api.Map{M: [3]api.Point{s.point(), s.point(), s.point()}, T: s.point()}
		v := s.point()
		moved := shapes.Extrude(curve.Move(c, m), vector.Turn(m, v))
		expectText(t, "the moved surface of segments", showSurface(moved), showSurface(surface.Move(shapes.Extrude(c, v), m)))
		d := s.withKnots(c.Degree, c.Knots)
		ruled, _ := shapes.Ruled(c, d)
		other, _ := shapes.Ruled(curve.Move(c, m), curve.Move(d, m))
		expectText(t, "the moved surface between curves", showSurface(other), showSurface(surface.Move(ruled, m)))
	}
}

// Surfaces of longer numbers than curves may have are computed as usual.
func TestLongerThanValid(t *testing.T) {
	c := quarter()
	c.Poles[1].P[0] = rat(whole(1).SetInt(new(big.Int).Lsh(big.NewInt(1), api.MaxBits)))
	expectError(t, "curve.Check", curve.Check(c), api.ErrSize)
	s, e := shapes.Ruled(c, quarter())
	expectError(t, "Ruled", e, api.OK)
	expectText(t, "Ruled", showSurface(s), "1 "+ruledText(c, quarter()))
	s, e = shapes.Revolve(c, 3)
	expectError(t, "Revolve", e, api.OK)
	expectText(t, "Revolve", showSurface(s), revolvedText(c, 3))
}
