package nearest_test

import (
	"math/big"
	"slices"
	"strings"
	"testing"

	"brepkernel/api"
	"brepkernel/curve"
	"brepkernel/surface"
)

// precision returns a precision.
func precision(depth, work int, width string) api.Prec {
	return api.Prec{Depth: depth, Work: work, Width: num(width)}
}

// expectFound looks whether what is found is what the model finds.
func expectFound(t *testing.T, o operand, p api.Point, prec api.Prec) found {
	t.Helper()
	want := modelOf(o).search(tripleOf(p), prec.Depth, prec.Work, value(prec.Width))
	s, cells, e := o.nearest(p, prec)
	expectError(t, "nearest of "+o.String(), e, api.OK)
	expectText(t, "nearest of "+o.String()+" and "+showPoint(p), showFound(s, cells), want.String())
	return want
}

// valid fails if the operand of a test is not valid.
func (o operand) valid(t *testing.T) {
	t.Helper()
	if o.curve.Degree != 0 {
		expectError(t, "curve.Check of "+o.String(), curve.Check(o.curve), api.OK)
		return
	}
	expectError(t, "surface.Check of "+o.String(), surface.Check(o.surface), api.OK)
}

// points returns some: near and far, and one on the operand.
func (s *source) points(o operand) []api.Point {
	m := modelOf(o)
	all := m.pieces()
	b := all[s.below(len(all))]
	at := each(b.spans, func(e ends) *big.Rat { return between(e[0], e[1], exact("0 1/2 1/3 5/8")[s.below(4)]) })
	return []api.Point{s.point(s.simple), s.point(s.number), m.point(b.intervals, at...).point()}
}

// P15.1
func TestCurve(t *testing.T) {
	s := source(5)
	for _, o := range curves() {
		o.valid(t)
		for i, p := range s.points(o) {
			width := [3]string{"0", "1/3", "1/20"}[s.below(3)]
			expectFound(t, o, p, precision(s.below(6), api.MaxWork, width))
			expectFound(t, o, p, precision(9, 1+s.below(12), width))
			expectFound(t, o, p, precision(2+6*i, 50, width))
		}
	}
}

// P15.2
func TestSurface(t *testing.T) {
	s := source(6)
	for _, o := range surfaces() {
		o.valid(t)
		size := len(o.surface.Poles) * len(o.surface.Poles[0])
		for _, p := range s.points(o) {
			width := [3]string{"0", "1/2", "1/5"}[s.below(3)]
			expectFound(t, o, p, precision(s.below(3), api.MaxWork, width))
			expectFound(t, o, p, precision(12, 1+s.below(200/size), width))
		}
	}
}

// example is a search whose result is written out.
type example struct {
	o           operand
	point       string
	depth, work int
	width, want string
}

func expectExamples(t *testing.T, all []example) {
	t.Helper()
	for _, x := range all {
		x.o.valid(t)
		s, cells, e := x.o.nearest(pt(x.point), precision(x.depth, x.work, x.width))
		expectError(t, x.o.String(), e, api.OK)
		expectText(t, x.o.String()+" and "+x.point, showFound(s, cells), x.want)
		expectFound(t, x.o, pt(x.point), precision(x.depth, x.work, x.width))
	}
}

func TestCurveOfExamples(t *testing.T) {
	expectExamples(t, []example{
		{segment(), "1 1 0", 0, 9, "0", "1 2: 0 1"},
		{segment(), "1 1 0", 1, 9, "0", "1 1: 0 1/2; 1/2 1"},
		{segment(), "1 1 0", 2, 9, "0", "1 1: 1/4 1/2; 1/2 3/4"},
		{segment(), "1 1 0", 3, 9, "0", "1 1: 3/8 1/2; 1/2 5/8"},
		{segment(), "3 0 0", 0, 9, "0", "1 1: 0 1"},
		{segment(), "3 0 0", 3, 9, "0", "1 1: 7/8 1"},
		{segment(), "-2 1 -3", 2, 9, "0", "14 14: 0 1/4"},
		{segment(), "1/2 0 0", 0, 9, "0", "0 1/4: 0 1"},
		{segment(), "1/2 0 0", 1, 9, "0", "0 1/4: 0 1/2; 1/2 1"},
		{segment(), "1/2 0 0", 2, 9, "0", "0 0: 0 1/4; 1/4 1/2"},
		{corner(), "0 -1 0", 0, 9, "0", "1 1: 0 1; 1 2"},
		{corner(), "0 -1 0", 1, 9, "0", "1 1: 1/2 1; 1 3/2"},
		{corner(), "1 1 5", 0, 9, "0", "25 25: 1 2"},
		{quarter(), "0 0 0", 0, 9, "0", "0 1: 0 1"},
		{quarter(), "2 2 0", 0, 9, "0", "2 5: 0 1"},
		{quarter(), "6/5 8/5 0", 1, 9, "0", "17/25 1: 0 1/2; 1/2 1"},
	})
}

func TestSurfaceOfExamples(t *testing.T) {
	expectExamples(t, []example{
		{square(), "2 2 1", 0, 9, "0", "1 9: 0 1, 0 1"},
		{square(), "2 2 1", 1, 9, "0", "1 5: 0 1/2, 0 1; 1/2 1, 0 1"},
		{square(), "2 2 1", 2, 9, "0", "1 1: 0 1/2, 0 1/2; 0 1/2, 1/2 1; 1/2 1, 0 1/2; 1/2 1, 1/2 1"},
		{square(), "2 2 1", 3, 9, "0", "1 1: 1/4 1/2, 0 1/2; 1/4 1/2, 1/2 1; 1/2 3/4, 0 1/2; 1/2 3/4, 1/2 1"},
		{square(), "5 -1 0", 3, 9, "0", "2 2: 3/4 1, 0 1/2"},
		{square(), "-1 5 0", 4, 9, "0", "2 2: 0 1/4, 3/4 1"},
		{square(), "4 4 -2", 4, 9, "0", "4 4: 3/4 1, 3/4 1"},
		{square(), "0 -3 4", 1, 9, "0", "25 25: 0 1/2, 0 1"},
		{octant(), "0 0 0", 0, 9, "0", "0 1: 0 1, 0 1"},
		{octant(), "0 0 2", 0, 9, "0", "1 1: 0 1, 0 1"},
		{octant(), "0 0 2", 2, 9, "0", "1 1: 0 1/2, 1/2 1; 1/2 1, 1/2 1"},
	})
}

// Boxes of which low equals best stay: all parts of a curve or surface that is one point.
func TestEqualBoxesStay(t *testing.T) {
	point := curveText(1, "0 0 2 2", "1 1 1 1; 1 1 1 3")
	dot := surfaceText(1, 1, "0 0 2 2", "0 0 1 1", "1 1 1 1; 1 1 1 3 | 1 1 1 2; 1 1 1 1")
	expectExamples(t, []example{
		{point, "1 1 1", 2, 9, "0", "0 0: 0 1/2; 1/2 1; 1 3/2; 3/2 2"},
		{point, "0 3 1", 2, 9, "0", "5 5: 0 1/2; 1/2 1; 1 3/2; 3/2 2"},
		{dot, "0 3 1", 2, 9, "0", "5 5: 0 1, 0 1/2; 0 1, 1/2 1; 1 2, 0 1/2; 1 2, 1/2 1"},
	})
}

// A search ends where Work does not suffice for all boxes that are to be halved.
func TestWork(t *testing.T) {
	point := curveText(1, "0 0 1 1", "0 0 0 1; 0 0 0 1")
	expectExamples(t, []example{
		{segment(), "1 1 0", 9, 0, "0", "1 2: 0 1"},
		{segment(), "1 1 0", 9, 1, "0", "1 1: 0 1/2; 1/2 1"},
		{segment(), "1 1 0", 9, 2, "0", "1 1: 0 1/2; 1/2 1"},
		{segment(), "1 1 0", 9, 3, "0", "1 1: 1/4 1/2; 1/2 3/4"},
		{segment(), "1 1 0", 9, 4, "0", "1 1: 1/4 1/2; 1/2 3/4"},
		{segment(), "1 1 0", 9, 5, "0", "1 1: 3/8 1/2; 1/2 5/8"},
		{corner(), "0 -1 0", 9, 1, "0", "1 1: 0 1; 1 2"},
		{corner(), "0 -1 0", 9, 2, "0", "1 1: 1/2 1; 1 3/2"},
		{point, "0 1 0", 9, 2, "0", "1 1: 0 1/2; 1/2 1"},
		{point, "0 1 0", 9, 3, "0", "1 1: 0 1/4; 1/4 1/2; 1/2 3/4; 3/4 1"},
		{point, "0 1 0", 9, 6, "0", "1 1: 0 1/4; 1/4 1/2; 1/2 3/4; 3/4 1"},
		{square(), "2 2 1", 9, 2, "0", "1 5: 0 1/2, 0 1; 1/2 1, 0 1"},
		{square(), "2 2 1", 9, 3, "0", "1 1: 0 1/2, 0 1/2; 0 1/2, 1/2 1; 1/2 1, 0 1/2; 1/2 1, 1/2 1"},
		{square(), "2 2 1", 9, 6, "0", "1 1: 0 1/2, 0 1/2; 0 1/2, 1/2 1; 1/2 1, 0 1/2; 1/2 1, 1/2 1"},
		{square(), "2 2 1", 9, 7, "0", "1 1: 1/4 1/2, 0 1/2; 1/4 1/2, 1/2 1; 1/2 3/4, 0 1/2; 1/2 3/4, 1/2 1"},
	})
}

// Work counts the boxes that are halved, not those that are narrow enough.
func TestWorkWithNarrowBoxes(t *testing.T) {
	mixed := curveText(1, "0 0 1 3 4 4", "0 0 0 1; 0 0 0 1; 0 0 0 1; 0 0 0 1")
	expectExamples(t, []example{
		{mixed, "0 1 0", 9, 0, "1", "1 1: 0 1; 1 3; 3 4"},
		{mixed, "0 1 0", 9, 1, "1", "1 1: 0 1; 1 2; 2 3; 3 4"},
		{mixed, "0 1 0", 9, 1, "3/4", "1 1: 0 1; 1 3; 3 4"},
		{mixed, "0 1 0", 9, 3, "3/4", "1 1: 0 1/2; 1/2 1; 1 2; 2 3; 3 7/2; 7/2 4"},
		{mixed, "0 1 0", 9, 5, "3/4", "1 1: 0 1/2; 1/2 1; 1 3/2; 3/2 2; 2 5/2; 5/2 3; 3 7/2; 7/2 4"},
		{mixed, "0 1 0", 1, 9, "1", "1 1: 0 1; 1 2; 2 3; 3 4"},
		{mixed, "0 1 0", 9, 9, "2", "1 1: 0 1; 1 3; 3 4"},
		{mixed, "0 1 0", 9, 9, "1999/1000", "1 1: 0 1; 1 2; 2 3; 3 4"},
	})
}

// Boxes are halved down to a width, which they may have.
func TestWidth(t *testing.T) {
	expectExamples(t, []example{
		{segment(), "1 1 0", 9, 99, "2", "1 2: 0 1"},
		{segment(), "1 1 0", 9, 99, "1", "1 2: 0 1"},
		{segment(), "1 1 0", 9, 99, "999/1000", "1 1: 0 1/2; 1/2 1"},
		{segment(), "1 1 0", 9, 99, "1/2", "1 1: 0 1/2; 1/2 1"},
		{segment(), "1 1 0", 9, 99, "1/3", "1 1: 1/4 1/2; 1/2 3/4"},
		{segment(), "1 1 0", 1, 99, "1/3", "1 1: 0 1/2; 1/2 1"},
		{square(), "2 2 1", 9, 99, "1", "1 9: 0 1, 0 1"},
		{square(), "2 2 1", 9, 99, "1/2", "1 1: 0 1/2, 0 1/2; 0 1/2, 1/2 1; 1/2 1, 0 1/2; 1/2 1, 1/2 1"},
		{square(), "2 2 1", 1, 99, "1/2", "1 5: 0 1/2, 0 1; 1/2 1, 0 1"},
	})
}

// A surface is halved in u and v by turns, also where one of them is narrow enough.
func TestDirectionsTakeTurns(t *testing.T) {
	tall := surfaceText(1, 1, "0 0 1 1", "0 0 4 4", "0 0 0 1; 0 4 0 1 | 4 0 0 1; 4 4 0 1")
	wide := surfaceText(1, 1, "0 0 4 4", "0 0 1 1", "0 0 0 1; 0 4 0 1 | 4 0 0 1; 4 4 0 1")
	expectExamples(t, []example{
		{tall, "0 -1 0", 9, 99, "2", "1 1: 0 1/2, 0 2"},
		{tall, "0 -1 0", 9, 99, "1", "1 1: 0 1/4, 0 1"},
		{tall, "0 -1 0", 3, 99, "1", "1 1: 0 1/4, 0 2"},
		{wide, "0 -1 0", 9, 99, "2", "1 1: 0 2, 0 1"},
		{wide, "0 -1 0", 9, 99, "1", "1 1: 0 1, 0 1/2"},
		{wide, "0 -1 0", 9, 99, "1/2", "1 1: 0 1/2, 0 1/4"},
	})
}

// The first boxes are those of the pieces, by u and for equal u by v.
func TestOrderOfPieces(t *testing.T) {
	flat := surfaceText(1, 1, "0 0 1 2 2", "5 5 6 8 8", "1 1 1 1; 1 1 1 1; 1 1 1 1 | 1 1 1 1; 1 1 1 2; 1 1 1 1 | 1 1 1 1; 1 1 1 1; 1 1 1 1")
	chain := curveText(2, "-2 -2 -2 0 1/2 1/2 7 7 7", "1 2 3 1; 1 2 3 1; 1 2 3 1; 1 2 3 1; 1 2 3 1; 1 2 3 1")
	expectExamples(t, []example{
		{flat, "1 1 0", 0, 0, "0", "1 1: 0 1, 5 6; 0 1, 6 8; 1 2, 5 6; 1 2, 6 8"},
		{chain, "1 1 2", 0, 0, "0", "2 2: -2 0; 0 1/2; 1/2 7"},
		{chain, "1 1 2", 1, 9, "1/2", "2 2: -2 -1; -1 0; 0 1/2; 1/2 15/4; 15/4 7"},
	})
}

// A curve and a surface may have api.MaxPoles poles in a direction.
func TestManyPieces(t *testing.T) {
	s := source(7)
	c := s.curveOf(1, api.MaxPoles-2, s.simple)
	c.valid(t)
	x := operand{surface: api.Surface{U: 1, V: 1, KnotsU: c.curve.Knots, KnotsV: list("0 0 1 1")}}
	for _, p := range c.curve.Poles {
		x.surface.Poles = append(x.surface.Poles, append(s.row(1, s.simple), p))
	}
	x.valid(t)
	for _, o := range []operand{c, x} {
		for _, p := range s.points(o) {
			expectFound(t, o, p, precision(3, 60, "0"))
			expectFound(t, o, p, precision(5, 200, "1/7"))
		}
	}
}

// Searches may be as deep and as long as limits say.
func TestGreatestPrecision(t *testing.T) {
	away := pt("1/3 1 0")
	all := expectFound(t, segment(), away, precision(api.MaxDepth, api.MaxWork, "0"))
	for _, b := range all.boxes {
		if b.spans[0].width().Cmp(over(big.NewRat(1, 1), powerOf2(api.MaxDepth))) != 0 {
			t.Fatalf("a box of the width %s", b.spans[0].width().RatString())
		}
	}
	expectFound(t, square(), pt("4/3 8/7 1"), precision(api.MaxDepth, api.MaxWork, "0"))
	for work, want := range map[int]int{api.MaxWork: api.MaxWork, api.MaxWork - 2: api.MaxWork / 2} {
		point := curveText(1, "0 0 1 1", "0 0 0 1; 0 0 0 1")
		_, cells, e := point.nearest(away, precision(api.MaxDepth, work, "0"))
		expectError(t, "a search with the most work", e, api.OK)
		if len(cells) != want {
			t.Errorf("%d cells with the work %d; expected %d", len(cells), work, want)
		}
	}
}

// The numbers of curves and surfaces may have api.MaxBits bits, and those of points more.
func TestLongNumbers(t *testing.T) {
	s := source(8)
	long := func() *big.Rat {
		if s.below(2) == 0 {
			return s.simple()
		}
		return s.long(api.MaxBits)
	}
	for _, o := range []operand{s.curveOf(3, 1, long), s.surfaceOf(1, 2, 0, 0, long)} {
		o.valid(t)
		expectFound(t, o, s.point(long), precision(3, 99, "0"))
		expectFound(t, o, s.point(func() *big.Rat { return s.long(3 * api.MaxBits) }), precision(2, 99, "1e-300"))
	}
}

// wrongPrecisions returns some that are not valid.
func wrongPrecisions() []api.Prec {
	var out []api.Prec
	for _, n := range []int{-1, -1 << 63, 1<<63 - 1} {
		out = append(out, api.Prec{Depth: n}, api.Prec{Work: n})
	}
	out = append(out, api.Prec{Depth: api.MaxDepth + 1}, api.Prec{Work: api.MaxWork + 1}, precision(0, 0, "-1"), precision(1, 1, "-1/1000000007"))
	for _, r := range wrongNumbers() {
		out = append(out, api.Prec{Depth: 2, Work: 2, Width: r})
	}
	return out
}

// wrongNumbers returns some numbers that are not valid.
func wrongNumbers() []api.Rat {
	return []api.Rat{
		{Neg: true}, {Num: []uint32{0}}, {Num: []uint32{5, 0, 0}}, {Den: []uint32{0}}, {Num: []uint32{1}, Den: []uint32{0}},
		{Num: []uint32{1}, Den: []uint32{0, 0, 0, 0}}, {Neg: true, Num: []uint32{0, 0, 0}, Den: []uint32{0, 0, 0}},
		{Num: []uint32{1}, Den: []uint32{1}}, {Den: []uint32{7}}, {Num: []uint32{6}, Den: []uint32{4}}, {Num: []uint32{0, 0, 6}, Den: []uint32{0, 4, 0}},
		{Num: []uint32{1, 2, 3, 0}, Den: []uint32{0, 0, 0, 0, 0}}, {Num: []uint32{0, 0, 0, 0, 0, 1, 0}, Den: []uint32{0, 0, 1, 0}},
	}
}

func TestPrecisionIsNotValid(t *testing.T) {
	for _, o := range []operand{segment(), wave(), square(), hill()} {
		for _, prec := range wrongPrecisions() {
			s, cells, e := o.nearest(pt("1 2 3"), prec)
			expectError(t, "a precision that is not valid", e, api.ErrArg)
			expectNothing(t, s, cells)
		}
		for _, prec := range []api.Prec{{}, {Depth: api.MaxDepth}, {Work: api.MaxWork}, {Depth: 1, Work: 4, Width: num("1e-900")}, precision(0, 0, "1e900")} {
			_, _, e := o.nearest(pt("1 2 3"), prec)
			expectError(t, "a valid precision", e, api.OK)
		}
	}
}

// expectNothing looks whether results that are returned with an error are zero.
func expectNothing(t *testing.T, s api.Span, cells []api.Cell) {
	t.Helper()
	if len(cells) > 0 || s.Lo.Neg || s.Hi.Neg || len(s.Lo.Num)+len(s.Lo.Den)+len(s.Hi.Num)+len(s.Hi.Den) > 0 {
		t.Fatalf("with an error: %s", showFound(s, cells))
	}
}

// has reports whether parameters lie in one of the cells.
func has(cells []api.Cell, at []*big.Rat) bool {
	return slices.ContainsFunc(cells, func(c api.Cell) bool {
		for i, t := range at {
			if value(c.A[i].Lo).Cmp(t) > 0 || t.Cmp(value(c.A[i].Hi)) > 0 {
				return false
			}
		}
		return true
	})
}

// The chapter's consequences: no point is nearer than the span says, and those that are
// nearest have their parameters in the cells.
func TestNothingIsMissed(t *testing.T) {
	s := source(9)
	shares := exact("0 1 1/2 1/3 2/3 3/16 1/1000003 5/7")
	for _, o := range append(curves(), surfaces()...) {
		m := modelOf(o)
		for _, p := range s.points(o) {
			span, cells, _ := o.nearest(p, precision(6, 25, "0"))
			for range 12 {
				all := m.pieces()
				b := all[s.below(len(all))]
				at := each(b.spans, func(e ends) *big.Rat { return between(e[0], e[1], shares[s.below(len(shares))]) })
				away := tripleOf(p).from(m.point(b.intervals, at...))
				if away.Cmp(value(span.Lo)) < 0 || away.Cmp(value(span.Hi)) <= 0 && !has(cells, at) {
					t.Fatalf("nearest of %s and %s misses a point", o, showPoint(p))
				}
			}
		}
	}
}

// Points on a curve or surface have the distance 0.
func TestPointsOnIt(t *testing.T) {
	s := source(10)
	for _, o := range append(curves(), surfaces()...) {
		m := modelOf(o)
		for _, b := range m.pieces() {
			at := each(b.spans, func(e ends) *big.Rat { return between(e[0], e[1], big.NewRat(int64(s.below(8)), 7)) })
			p := m.point(b.intervals, at...).point()
			span, cells, _ := o.nearest(p, precision(4, 12, "0"))
			if len(span.Lo.Num) > 0 || !has(cells, at) {
				t.Fatalf("nearest of %s and the point %s of it: %s", o, showPoint(p), showFound(span, cells))
			}
		}
	}
}

// All points of a circle or of a sphere are nearest to the centre.
func TestCentres(t *testing.T) {
	for _, o := range []operand{quarter(), octant()} {
		for depth := range 8 {
			span, cells, _ := o.nearest(api.Point{}, precision(depth, api.MaxWork, "0"))
			if len(cells) != 1<<depth || value(span.Hi).Cmp(big.NewRat(1, 1)) != 0 {
				t.Fatalf("nearest of %s and its centre: %s", o, showFound(span, cells))
			}
		}
	}
	span, _, _ := quarter().nearest(pt("0 0 2"), precision(10, api.MaxWork, "0"))
	if width := minus(value(span.Hi), value(span.Lo)); value(span.Hi).Cmp(big.NewRat(5, 1)) != 0 || width.Cmp(big.NewRat(1, 100)) > 0 {
		t.Errorf("nearest of the quarter circle and a point above its centre: %s", showSpans([]api.Span{span}))
	}
}

// With greater Depth and Work the span becomes no wider.
func TestSpansBecomeNarrower(t *testing.T) {
	s := source(11)
	for _, o := range append(curves(), surfaces()[:9]...) {
		for _, p := range s.points(o) {
			low, best := new(big.Rat), powerOf2(4000)
			for n := range 7 {
				span, _, _ := o.nearest(p, precision(n, 1<<n, "0"))
				if value(span.Lo).Cmp(low) < 0 || value(span.Hi).Cmp(best) > 0 || value(span.Lo).Cmp(value(span.Hi)) > 0 {
					t.Fatalf("nearest of %s and %s at the depth %d: %s", o, showPoint(p), n, showSpans([]api.Span{span}))
				}
				low, best = value(span.Lo), value(span.Hi)
			}
		}
	}
}

// Curves and surfaces of several pieces are what their pieces are together.
func TestPieces(t *testing.T) {
	s := source(12)
	for _, o := range append(curves(), surfaces()[:12]...) {
		for _, p := range s.points(o) {
			var all []string
			whole, _, _ := o.nearest(p, precision(0, 0, "0"))
			for _, piece := range o.pieces() {
				span, cells, _ := piece.nearest(p, precision(0, 0, "0"))
				if value(span.Lo).Cmp(value(whole.Hi)) <= 0 {
					all = append(all, showSpans(cells[0].A))
				}
				if value(span.Hi).Cmp(value(whole.Hi)) < 0 {
					t.Fatalf("a piece of %s is nearer to %s", o, showPoint(p))
				}
			}
			_, cells, _ := o.nearest(p, precision(0, 0, "0"))
			expectText(t, "cells of "+o.String(), strings.Join(each(cells, func(c api.Cell) string { return showSpans(c.A) }), "; "), strings.Join(all, "; "))
		}
	}
}

// pieces returns those of which an operand consists.
func (o operand) pieces() []operand {
	if o.curve.Degree != 0 {
		return each(curve.Pieces(o.curve), func(c api.Curve) operand { return operand{curve: c} })
	}
	return each(surface.Patches(o.surface), func(s api.Surface) operand { return operand{surface: s} })
}
