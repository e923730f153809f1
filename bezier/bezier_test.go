package bezier_test

import (
	"math/big"
	"slices"
	"testing"

	"brepkernel/api"
	"brepkernel/bezier"
	"brepkernel/curve"
	"brepkernel/rational"
	"brepkernel/span"
	"brepkernel/vector"
)

// P11.1
func TestCheckOfBezierCurves(t *testing.T) {
	for _, c := range curves() {
		expectError(t, "Check of "+showCurve(c), bezier.Check(c), api.OK)
	}
	for _, c := range splines() {
		for _, piece := range curve.Pieces(c) {
			expectError(t, "Check of "+showCurve(piece), bezier.Check(piece), api.OK)
		}
	}
}

// splines returns valid curves with inner knots: of each degree, with a knot that occurs
// each possible number of times, and with several of them.
func splines() []api.Curve {
	s := source(2)
	var out []api.Curve
	for degree := 1; degree <= api.MaxDegree; degree++ {
		inner := [][]api.Rat{list("1/7 2/7 1/2 3/4")}
		for n := range degree {
			inner = append(inner, slices.Repeat(list("1/3"), n+1))
		}
		for _, l := range inner {
			c := s.bezierOf(degree, s.number)
			c.Knots = slices.Concat(slices.Repeat(list("0"), degree+1), l, slices.Repeat(list("1"), degree+1))
			c.Poles = slices.Concat(c.Poles, slices.Repeat(quarter().Poles[1:2], len(l)))
			out = append(out, c)
		}
	}
	return out
}

func TestCheckOfInnerKnots(t *testing.T) {
	for _, c := range append(splines(), wave()) {
		expectError(t, "curve.Check of "+showCurve(c), curve.Check(c), api.OK)
		expectError(t, "Check of "+showCurve(c), bezier.Check(c), api.ErrKnots)
	}
}

// wrongNumbers returns some numbers that are not valid.
func wrongNumbers() []api.Rat {
	return []api.Rat{
		{Neg: true}, {Num: []uint32{0}}, {Num: []uint32{5, 0, 0}}, {Den: []uint32{0}}, {Num: []uint32{1}, Den: []uint32{0}},
		{Num: []uint32{1}, Den: []uint32{0, 0, 0, 0}}, {Neg: true, Num: []uint32{0, 0, 0}, Den: []uint32{0, 0, 0}},
		{Num: []uint32{1}, Den: []uint32{1}}, {Den: []uint32{7}}, {Num: []uint32{6}, Den: []uint32{4}}, {Num: []uint32{0, 0, 6}, Den: []uint32{0, 4, 0}},
		{Num: []uint32{1, 2, 3, 0}, Den: []uint32{0, 0, 0, 0, 0}},
	}
}

// fault makes a curve wrong.
type fault struct {
	with func(c *api.Curve)
	want api.Errno
}

// faults returns some that curve.Check finds, in its order.
func faults() []fault {
	return []fault{
		{func(c *api.Curve) { c.Poles[len(c.Poles)-1].W = api.Rat{Num: []uint32{2}, Den: []uint32{2}} }, api.ErrArg},
		{func(c *api.Curve) { c.Knots[1].Neg, c.Knots[1].Num = true, nil }, api.ErrArg},
		{func(c *api.Curve) { c.Degree = 7 }, api.ErrArg},
		{func(c *api.Curve) { c.Degree = 0 }, api.ErrArg},
		{func(c *api.Curve) { c.Degree = -3 }, api.ErrArg},
		{func(c *api.Curve) { c.Knots = c.Knots[:5] }, api.ErrKnots},
		{func(c *api.Curve) { c.Knots = append(c.Knots, slices.Repeat(list("3"), 40)...) }, api.ErrSize},
		{func(c *api.Curve) { c.Knots[1] = num("-1") }, api.ErrKnots},
		{func(c *api.Curve) { c.Poles = c.Poles[:2] }, api.ErrArg},
		{func(c *api.Curve) { c.Poles = append(c.Poles, c.Poles[0]) }, api.ErrArg},
		{func(c *api.Curve) { c.Poles[0].W = num("-1") }, api.ErrWeight},
		{func(c *api.Curve) { c.Poles[2].W = api.Rat{} }, api.ErrWeight},
		{func(c *api.Curve) { c.Poles[0].P[2] = rat(powerOf2(api.MaxBits)) }, api.ErrSize},
	}
}

// The errors of curve.Check come first, whether or not there are inner knots.
func TestCheckOfFaults(t *testing.T) {
	for _, f := range faults() {
		for _, c := range []api.Curve{quarter(), wave()} {
			f.with(&c)
			expectError(t, "curve.Check of "+showCurve(c), curve.Check(c), f.want)
			expectError(t, "Check of "+showCurve(c), bezier.Check(c), f.want)
		}
	}
	for i := range numbersOf(quarter()) {
		for _, r := range wrongNumbers() {
			c := quarter()
			*numbersOf(c)[i] = r
			expectError(t, "Check with a wrong number", bezier.Check(c), api.ErrArg)
		}
	}
	for bits, want := range map[int]api.Errno{api.MaxBits - 1: api.OK, api.MaxBits: api.ErrSize} {
		c := quarter()
		c.Poles[1].P[0] = rat(powerOf2(bits))
		expectError(t, "Check with a long numerator", bezier.Check(c), want)
		c.Poles[1].P[0] = rat(quotient(big.NewRat(-1, 1), powerOf2(bits)))
		expectError(t, "Check with a long denominator", bezier.Check(c), want)
	}
	expectError(t, "Check of nothing", bezier.Check(api.Curve{}), api.ErrArg)
}

func TestNumerators(t *testing.T) {
	got := bezier.Numerators(quarter())
	for i, want := range []string{"1 1 0", "0 1 2", "0 0 0", "1 1 2"} {
		expectText(t, "Numerators", show(got[i]...), want)
	}
	for _, c := range curves() {
		got := bezier.Numerators(c)
		for i, want := range coefficients(c) {
			expectText(t, "Numerators of "+showCurve(c), show(got[i]...), show(each(want, rat)...))
		}
	}
}

// expectNothing looks whether a curve that is returned with an error is zero.
func expectNothing(t *testing.T, what string, got api.Curve) {
	t.Helper()
	if got.Degree != 0 || len(got.Knots) > 0 || len(got.Poles) > 0 {
		t.Fatalf("%s: %s", what, showCurve(got))
	}
}

// P11.2
func TestCut(t *testing.T) {
	for _, c := range curves() {
		m := modelOf(c)
		all := m.parameters()
		for i, b := range all {
			for j, a := range all {
				got, e := bezier.Cut(c, rat(a), rat(b))
				what := "Cut of " + showCurve(c) + " from " + a.RatString() + " to " + b.RatString()
				if j >= i {
					expectError(t, what, e, api.ErrRange)
					expectNothing(t, what, got)
					continue
				}
				expectError(t, what, e, api.OK)
				expectText(t, what, showCurve(got), showCurve(m.cut(a, b)))
			}
		}
		whole, _ := bezier.Cut(c, rat(m.lo), rat(m.hi))
		expectText(t, "Cut to the whole domain", showCurve(whole), showCurve(c))
	}
}

func TestCutOfExamples(t *testing.T) {
	for _, x := range []struct {
		c          api.Curve
		a, b, want string
	}{
		{quarter(), "0", "1/2", "2: 0 0 0 1/2 1/2 1/2: 1 0 0 1; 1 1/2 0 1; 3/5 4/5 0 5/4"},
		{quarter(), "1/2", "1", "2: 1/2 1/2 1/2 1 1 1: 3/5 4/5 0 5/4; 1/3 1 0 3/2; 0 1 0 2"},
		{parabola(), "1/4", "3/4", "2: 1/4 1/4 1/4 3/4 3/4 3/4: 1/2 3/8 0 1; 1 5/8 0 1; 3/2 3/8 0 1"},
		{overUnit("0 0 0 1; 2 4 -6 1"), "1/2", "1", "1: 1/2 1/2 1 1: 1 2 -3 1; 2 4 -6 1"},
		{overUnit("0 0 0 1; 2 4 -6 3"), "0", "1/2", "1: 0 0 1/2 1/2: 0 0 0 1; 3/2 3 -9/2 2"},
	} {
		got, e := bezier.Cut(x.c, num(x.a), num(x.b))
		expectError(t, "Cut of "+showCurve(x.c), e, api.OK)
		expectText(t, "Cut of "+showCurve(x.c), showCurve(got), x.want)
	}
}

func TestCutOutside(t *testing.T) {
	for _, c := range curves() {
		m := modelOf(c)
		all := slices.Concat(m.parameters(), m.outside())
		for _, x := range m.outside() {
			for _, y := range all {
				for _, ends := range [][2]*big.Rat{{x, y}, {y, x}} {
					got, e := bezier.Cut(c, rat(ends[0]), rat(ends[1]))
					expectError(t, "Cut outside of the domain", e, api.ErrRange)
					expectNothing(t, "Cut outside of the domain", got)
				}
			}
		}
	}
}

// Parts are what curve.Split returns, and parts of parts are parts.
func TestCutOfCut(t *testing.T) {
	for _, c := range curves() {
		l := each(modelOf(c).parameters(), rat)
		outer, _ := bezier.Cut(c, l[1], l[6])
		inner, e := bezier.Cut(outer, l[2], l[4])
		want, _ := bezier.Cut(c, l[2], l[4])
		expectError(t, "Cut of Cut", e, api.OK)
		expectText(t, "Cut of Cut of "+showCurve(c), showCurve(inner), showCurve(want))
		lower, upper, _ := curve.Split(c, l[3])
		first, _ := bezier.Cut(c, l[0], l[3])
		second, _ := bezier.Cut(c, l[3], l[7])
		expectText(t, "Cut to the lower part of "+showCurve(c), showCurve(first), showCurve(lower))
		expectText(t, "Cut to the upper part of "+showCurve(c), showCurve(second), showCurve(upper))
	}
}

func TestBox(t *testing.T) {
	expectText(t, "Box", showBox(bezier.Box(quarter())), "0 1; 0 1; 0 0")
	expectText(t, "Box", showBox(bezier.Box(overUnit("3 -1 2 7; -5 -1 1/2 1; 0 -1 9 1/9"))), "-5 3; -1 -1; 1/2 9")
	for _, c := range curves() {
		var want api.Box
		for i := range want {
			l := each(c.Poles, func(p api.Pole) *big.Rat { return value(p.P[i]) })
			want[i] = api.Span{Lo: rat(least(l)), Hi: rat(greatest(l))}
		}
		expectText(t, "Box of "+showCurve(c), showBox(bezier.Box(c)), showBox(want))
	}
}

// The chapter's consequences: points and parts of the curve lie in the box.
func TestCurveLiesInBox(t *testing.T) {
	for _, c := range curves() {
		m := modelOf(c)
		all, box := m.parameters(), bezier.Box(c)
		for i, x := range all {
			point := m.point(x)
			for j := range box {
				if !span.Has(box[j], rat(point[j])) {
					t.Fatalf("Box of %s has not the point at %s", showCurve(c), x.RatString())
				}
			}
			if i == 0 {
				continue
			}
			part, _ := bezier.Cut(c, rat(all[i-1]), rat(x))
			for j, s := range bezier.Box(part) {
				if !span.Inside(s, box[j]) {
					t.Fatalf("Box of %s has not that of a part", showCurve(c))
				}
			}
		}
	}
}

// P11.4
func TestChord(t *testing.T) {
	for text, want := range map[string]string{
		"0 0 0 1; 1 1 0 1; 2 0 0 1":               "1",
		"0 0 0 1; 2 0 0 1":                        "0",
		"0 0 0 1; 3 0 0 1; 2 0 0 5":               "1",
		"0 0 0 1; -3/2 0 0 1; 2 0 0 1":            "9/4",
		"0 0 0 1; 1 0 2 1; 1 1 0 1; 2 0 0 1":      "4",
		"0 0 0 1; 1 1 0 1; 1 0 2 1; 2 0 0 1":      "4",
		"5 5 5 1; 5 6 7 1; 5 5 5 1":               "5",
		"0 0 0 1; 0 1 0 1; 1 1 0 1":               "1/2",
		"1 1 1 1; 1 1 1 2; 1 1 1 3":               "0",
		"0 0 0 1; 1 0 0 1; -1/3 0 0 1; 1/2 0 0 1": "1/4",
	} {
		expectText(t, "Chord of "+text, show(bezier.Chord(overUnit(text))), want)
	}
	for _, c := range curves() {
		first, last := values(c.Poles[0].P), values(c.Poles[c.Degree].P)
		all := each(c.Poles, func(p api.Pole) *big.Rat { return fromSegment(first, last, values(p.P)) })
		expectText(t, "Chord of "+showCurve(c), show(bezier.Chord(c)), show(rat(greatest(all))))
	}
}

func values(p api.Point) [3]*big.Rat {
	return [3]*big.Rat{value(p[0]), value(p[1]), value(p[2])}
}

func dot(p, q [3]*big.Rat) *big.Rat {
	return plus(plus(times(p[0], q[0]), times(p[1], q[1])), times(p[2], q[2]))
}

func difference(p, q [3]*big.Rat) [3]*big.Rat {
	return [3]*big.Rat{minus(p[0], q[0]), minus(p[1], q[1]), minus(p[2], q[2])}
}

// fromSegment returns the squared distance of p from the nearest point between a and b.
func fromSegment(a, b, p [3]*big.Rat) *big.Rat {
	line, share := difference(b, a), new(big.Rat)
	if length := dot(line, line); length.Sign() > 0 {
		share = quotient(dot(line, difference(p, a)), length)
		share = least([]*big.Rat{greatest([]*big.Rat{share, new(big.Rat)}), big.NewRat(1, 1)})
	}
	var foot [3]*big.Rat
	for i := range foot {
		foot[i] = between(a[i], b[i], share)
	}
	return dot(difference(p, foot), difference(p, foot))
}

// The chapter's consequence.
func TestCurveLiesNearChord(t *testing.T) {
	for _, c := range curves() {
		first, last := curve.Ends(c)
		for _, x := range modelOf(c).parameters() {
			p, _ := curve.Eval(c, rat(x))
			if rational.Cmp(vector.Segment(first, last, p), bezier.Chord(c)) > 0 {
				t.Fatalf("Chord of %s is less than the distance of the point at %s", showCurve(c), x.RatString())
			}
		}
	}
}
