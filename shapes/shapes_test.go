package shapes_test

import (
	"math/big"
	"strconv"
	"strings"
	"testing"

	"brepkernel/api"
	"brepkernel/curve"
	"brepkernel/shapes"
	"brepkernel/vector"
)

// P14.1

func TestLine(t *testing.T) {
	expectCurve(t, "Line", shapes.Line(pt("1 2 3"), pt("3 -2 1/7")), "1: 0 0 1 1: 1 2 3 1; 3 -2 1/7 1")
	expectCurve(t, "Line of equal points", shapes.Line(pt("1 2 3"), pt("1 2 3")), "1: 0 0 1 1: 1 2 3 1; 1 2 3 1")
	expectCurve(t, "Line at the origin", shapes.Line(api.Point{}, api.Point{}), "1: 0 0 1 1: 0 0 0 1; 0 0 0 1")
	s := source(2)
	for range 50 {
		a, b := s.point(), s.point()
		c := shapes.Line(a, b)
		expectCurve(t, "Line", c, "1: 0 0 1 1: "+showPoint(a)+" 1; "+showPoint(b)+" 1")
		for _, x := range shares() {
			expectVec(t, "a point of Line", curveAt(t, c, x), vecOf(a).plus(vecOf(b).minus(vecOf(a)).times(x)))
		}
	}
}

func TestPolyline(t *testing.T) {
	s := source(3)
	for n := 2; n <= api.MaxPoles; n++ {
		points := s.points(n)
		c, e := shapes.Polyline(points)
		expectError(t, "Polyline", e, api.OK)
		knots, poles := []string{"0"}, []string{}
		for i, p := range points {
			knots, poles = append(knots, strconv.Itoa(i)), append(poles, showPoint(p)+" 1")
		}
		knots = append(knots, strconv.Itoa(n-1))
		expectCurve(t, "Polyline", c, "1: "+strings.Join(knots, " ")+": "+strings.Join(poles, "; "))
		for i := range n - 1 {
			a, b := vecOf(points[i]), vecOf(points[i+1])
			for _, x := range shares() {
				expectVec(t, "a point of Polyline", curveAt(t, c, plus(whole(i), x)), a.plus(b.minus(a).times(x)))
			}
		}
	}
}

// Two points make the segment, and closed chains and points that are equal are chains
// like others.
func TestPolylineOfFewPoints(t *testing.T) {
	a, b := pt("1 2 3"), pt("4 5 6")
	c, _ := shapes.Polyline([]api.Point{a, b})
	expectCurve(t, "Polyline of two", c, showCurve(shapes.Line(a, b)))
	c, _ = shapes.Polyline([]api.Point{a, b, a})
	expectCurve(t, "Polyline of three", c, "1: 0 0 1 2 2: 1 2 3 1; 4 5 6 1; 1 2 3 1")
	c, _ = shapes.Polyline([]api.Point{a, a, a, a})
	expectCurve(t, "Polyline of one point", c, "1: 0 0 1 2 3 3: 1 2 3 1; 1 2 3 1; 1 2 3 1; 1 2 3 1")
}

func TestPolylineSizes(t *testing.T) {
	s := source(4)
	long := s.points(3 * api.MaxPoles)
	for n, want := range map[int]api.Errno{0: api.ErrArg, 1: api.ErrArg, 2: api.OK, 3: api.OK, api.MaxPoles - 1: api.OK, api.MaxPoles: api.OK, api.MaxPoles + 1: api.ErrSize, api.MaxPoles + 2: api.ErrSize, 3 * api.MaxPoles: api.ErrSize} {
		c, e := shapes.Polyline(long[:n])
		expectError(t, "Polyline of "+strconv.Itoa(n), e, want)
		if want != api.OK {
			expectNoCurve(t, "Polyline of "+strconv.Itoa(n), c)
		}
	}
	for _, none := range [][]api.Point{nil, {}} {
		c, e := shapes.Polyline(none)
		expectError(t, "Polyline of nothing", e, api.ErrArg)
		expectNoCurve(t, "Polyline of nothing", c)
	}
	c, e := shapes.Polyline(make([]api.Point, 1<<20))
	expectError(t, "Polyline of very many", e, api.ErrSize)
	expectNoCurve(t, "Polyline of very many", c)
}

// P14.2

func TestQuarter(t *testing.T) {
	c := shapes.Quarter()
	expectCurve(t, "Quarter", c, "2: 0 0 0 1 1 1: 1 0 0 1; 1 1 0 1; 0 1 0 2")
	expectVec(t, "the point of Quarter at 1/2", curveAt(t, c, big.NewRat(1, 2)), vecOf(pt("3/5 4/5 0")))
	for _, x := range shares() {
		p := curveAt(t, c, x)
		expectNumber(t, "the square of the distance", p.square(), whole(1))
		expectVec(t, "a point of Quarter", p, quarterAt(x))
	}
}

// circlePoles are the directions and the weights of P14.2.
func circlePoles() ([]vec, []int) {
	var out []vec
	for _, text := range []string{"1 0 0", "1 1 0", "0 1 0", "-1 1 0", "-1 0 0", "-1 -1 0", "0 -1 0", "1 -1 0", "1 0 0"} {
		out = append(out, vecOf(pt(text)))
	}
	return out, []int{1, 1, 2, 1, 1, 1, 2, 1, 1}
}

// circleText returns what Circle should be shown as.
func circleText(centre api.Point, r *big.Rat) string {
	directions, weights := circlePoles()
	var poles []string
	for i, q := range directions {
		p := vecOf(centre).plus(q.times(r))
		poles = append(poles, showPoint(p.point())+" "+strconv.Itoa(weights[i]))
	}
	return "2: 0 0 0 1 1 2 2 3 3 4 4 4: " + strings.Join(poles, "; ")
}

func TestCircle(t *testing.T) {
	unit, e := shapes.Circle(api.Point{}, num("1"))
	expectError(t, "Circle", e, api.OK)
	expectCurve(t, "the unit circle", unit, "2: 0 0 0 1 1 2 2 3 3 4 4 4: 1 0 0 1; 1 1 0 1; 0 1 0 2; -1 1 0 1; -1 0 0 1; -1 -1 0 1; 0 -1 0 2; 1 -1 0 1; 1 0 0 1")
	other, _ := shapes.Circle(pt("1 2 3"), num("5/2"))
	expectCurve(t, "a circle", other, "2: 0 0 0 1 1 2 2 3 3 4 4 4: 7/2 2 3 1; 7/2 9/2 3 1; 1 9/2 3 2; -3/2 9/2 3 1; -3/2 2 3 1; -3/2 -1/2 3 1; 1 -1/2 3 2; 7/2 -1/2 3 1; 7/2 2 3 1")
	s := source(5)
	for i := range 60 {
		centre, r := s.point(), s.positive()
		if i == 0 {
			centre, r = api.Point{rat(s.long(2000)), rat(s.long(2000)), rat(s.long(2000))}, s.long(2000)
		}
		c, e := shapes.Circle(centre, rat(r))
		expectError(t, "Circle", e, api.OK)
		expectText(t, "Circle", showCurve(c), circleText(centre, r))
		for quarter := range 4 {
			for _, x := range shares() {
				p := curveAt(t, c, plus(whole(quarter), x)).minus(vecOf(centre))
				expectNumber(t, "the square of the distance", p.square(), times(r, r))
				expectVec(t, "a point of Circle", p, circleAt(quarter, x).times(r))
			}
		}
	}
}

func TestCircleOfLongNumbers(t *testing.T) {
	long := rat(whole(1).SetInt(new(big.Int).Lsh(big.NewInt(1), api.MaxBits-1)))
	c, e := shapes.Circle(api.Point{}, long)
	expectError(t, "Circle", e, api.OK)
	expectError(t, "Check of a circle with the longest radius", curve.Check(c), api.OK)
	c, e = shapes.Circle(api.Point{long}, long)
	expectError(t, "Circle", e, api.OK)
	expectError(t, "Check of a circle with a number that is too long", curve.Check(c), api.ErrSize)
	expectText(t, "such a circle", showCurve(c), circleText(api.Point{long}, value(long)))
}

func TestCircleRange(t *testing.T) {
	s := source(6)
	for _, r := range append(list("0 -1 -1/1000000007 -1e300 -5 -1e-300"), rat(minus(whole(0), s.long(2048)))) {
		c, e := shapes.Circle(pt("1 2 3"), r)
		expectError(t, "Circle with the radius "+show(r), e, api.ErrRange)
		expectNoCurve(t, "Circle with the radius "+show(r), c)
	}
	for _, r := range list("1e-300 1/1000000007 1e300") {
		_, e := shapes.Circle(pt("1 2 3"), r)
		expectError(t, "Circle with the radius "+show(r), e, api.OK)
	}
}

// The pieces of a circle are quarters of it, and its first one is Quarter.
func TestQuarters(t *testing.T) {
	c, _ := shapes.Circle(api.Point{}, num("1"))
	pieces := curve.Pieces(c)
	if len(pieces) != 4 {
		t.Fatalf("%d pieces", len(pieces))
	}
	expectText(t, "the first piece", showCurve(pieces[0]), showCurve(shapes.Quarter()))
	turn := shapes.Rotation(num("1"))
	for i, piece := range pieces {
		ends := [2]vec{circleAt(i, whole(0)), circleAt(i, whole(1))}
		a, b := curve.Ends(piece)
		expectText(t, "the ends of a piece", showPoint(a)+"; "+showPoint(b), showPoint(ends[0].point())+"; "+showPoint(ends[1].point()))
		if i > 0 {
			before, _ := curve.Ends(pieces[i-1])
			expectText(t, "the beginning of a piece", showPoint(a), showPoint(vector.Apply(turn, before)))
		}
	}
}
