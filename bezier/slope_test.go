package bezier_test

import (
	"math/big"
	"slices"
	"testing"

	"brepkernel/api"
	"brepkernel/bezier"
	"brepkernel/curve"
	"brepkernel/rational"
	"brepkernel/span"
	"brepkernel/vector"
)

// P11.3
func TestTangent(t *testing.T) {
	for _, c := range curves() {
		m := modelOf(c)
		for _, x := range m.parameters() {
			got, e := bezier.Tangent(c, rat(x))
			want := m.tangent(x)
			expectError(t, "Tangent", e, api.OK)
			expectText(t, "Tangent of "+showCurve(c)+" at "+x.RatString(), showPoint(got), showPoint(api.Point(each(want[:], rat))))
		}
		for _, x := range m.outside() {
			got, e := bezier.Tangent(c, rat(x))
			expectError(t, "Tangent outside of the domain", e, api.ErrRange)
			expectText(t, "Tangent outside of the domain", showPoint(got), "0 0 0")
		}
	}
}

// over returns the curve over another domain.
func over(c api.Curve, a, b string) api.Curve {
	out, _ := curve.Affine(c, num(a), num(b))
	return out
}

func TestTangentOfExamples(t *testing.T) {
	for _, x := range []struct {
		c        api.Curve
		at, want string
	}{
		{quarter(), "0", "0 2 0"}, {quarter(), "1/2", "-32/25 24/25 0"}, {quarter(), "1", "-1 0 0"},
		{over(quarter(), "2", "4"), "2", "0 1 0"}, {over(quarter(), "-1/4", "1/4"), "0", "-64/25 48/25 0"},
		{parabola(), "0", "2 2 0"}, {parabola(), "3/4", "2 -1 0"},
		{overUnit("1 2 3 1; 1 2 3 5"), "1/3", "0 0 0"}, {overUnit("0 0 0 1; 2 4 -6 1"), "1/3", "2 4 -6"}, {overUnit("0 0 0 1; 2 4 -6 2"), "0", "4 8 -12"},
	} {
		got, e := bezier.Tangent(x.c, num(x.at))
		expectError(t, "Tangent", e, api.OK)
		expectText(t, "Tangent of "+showCurve(x.c)+" at "+x.at, showPoint(got), x.want)
	}
}

// The derivative is what quotients of small differences come near to: with half the
// difference, they come about twice as near.
func TestTangentIsDerivative(t *testing.T) {
	for _, c := range curves() {
		m := modelOf(c)
		x := rat(between(m.lo, m.hi, big.NewRat(1, 3)))
		tangent, _ := bezier.Tangent(c, x)
		p, _ := curve.Eval(c, x)
		away := func(step *big.Rat) *big.Rat {
			q, _ := curve.Eval(c, rational.Add(x, rat(times(step, m.width()))))
			chord := vector.Scale(rat(quotient(big.NewRat(1, 1), times(step, m.width()))), vector.Sub(q, p))
			d := values(vector.Sub(chord, tangent))
			return dot(d, d)
		}
		far, near := away(big.NewRat(1, 1<<40)), away(big.NewRat(1, 1<<41))
		if times(near, big.NewRat(3, 1)).Cmp(far) > 0 {
			t.Fatalf("Tangent of %s is no derivative", showCurve(c))
		}
	}
}

func TestSpeed(t *testing.T) {
	for _, x := range []struct {
		c    api.Curve
		want string
	}{
		{overUnit("0 0 0 1; 2 0 0 1"), "2 2; 0 0; 0 0"}, {overUnit("0 0 0 1; 2 0 -1 1"), "2 2; 0 0; -1 -1"},
		{quarter(), "-4 0; 0 2; 0 0"}, {over(quarter(), "2", "4"), "-2 0; 0 1; 0 0"}, {over(quarter(), "0", "1/3"), "-12 0; 0 6; 0 0"},
		// The weight is 2: q for y has the degree 3, with the coefficients 8, 8/3, -8/3 and -8.
		{overUnit("0 0 0 2; 1 1 0 2; 2 0 0 2"), "2 2; -2 2; 0 0"},
		{overUnit("0 0 0 1; 2 4 -6 2"), "1 4; 2 8; -12 -3"}, {overUnit("7 7 7 1; 7 7 7 3; 7 7 7 1/2"), "0 0; 0 0; 0 0"},
		// The coefficients of q for y are those of the degree 5; those of n', of the degree 2, are 3, -3 and 0.
		{overUnit("0 0 0 1; 0 1 0 1; 0 0 0 1; 0 0 0 1"), "0 0; -3/2 3; 0 0"},
	} {
		expectText(t, "Speed of "+showCurve(x.c), showBox(bezier.Speed(x.c)), x.want)
	}
	for _, c := range curves() {
		m := modelOf(c)
		var want api.Box
		for i := range want {
			lo, hi := m.speed(i)
			want[i] = api.Span{Lo: rat(lo), Hi: rat(hi)}
		}
		expectText(t, "Speed of "+showCurve(c), showBox(bezier.Speed(c)), showBox(want))
	}
}

func TestSpeedHasTangents(t *testing.T) {
	for _, c := range curves() {
		box := bezier.Speed(c)
		for _, x := range modelOf(c).parameters() {
			tangent, _ := bezier.Tangent(c, rat(x))
			for i := range box {
				if !span.Has(box[i], tangent[i]) {
					t.Fatalf("Speed of %s has not the derivative at %s", showCurve(c), x.RatString())
				}
			}
		}
	}
}

// P11.4
func TestAdvance(t *testing.T) {
	for _, x := range []struct {
		c    api.Curve
		d    string
		want int
	}{
		{parabola(), "1 0 0", api.Yes}, {parabola(), "0 1 0", api.Open}, {parabola(), "0 -1 0", api.Open}, {parabola(), "-1 0 0", api.No},
		{parabola(), "0 0 1", api.No}, {parabola(), "0 0 0", api.No}, {parabola(), "3 1 9", api.Yes}, {parabola(), "1 1 0", api.Open}, {parabola(), "-1 1 0", api.No},
		{quarter(), "0 1 0", api.Open}, {quarter(), "-1 1 0", api.Yes}, {quarter(), "1 0 0", api.No}, {quarter(), "-1 0 0", api.Open}, {quarter(), "1 -1 0", api.No},
		{overUnit("0 0 0 1; 1 2 3 1"), "1 1 1", api.Yes}, {overUnit("0 0 0 1; 1 2 3 1"), "1 1 -1", api.No}, {overUnit("0 0 0 1; 1 2 3 1"), "-5 1 1", api.No},
		{overUnit("0 0 0 1; 1 2 3 1"), "-4 1 1", api.Yes}, {overUnit("0 0 0 1; 0 0 0 1; 1 0 0 1"), "1 0 0", api.Open},
		// The coefficients of q are 0, 1/3, 0 and 0.
		{overUnit("0 0 0 1; 0 0 0 1; 1 0 0 1; 1 0 0 1"), "1 0 0", api.Open}, {overUnit("0 0 0 1; 0 0 0 1; 1 0 0 1; 1 0 0 1"), "-1 0 0", api.No},
	} {
		if got := bezier.Advance(x.c, pt(x.d)); got != x.want {
			t.Errorf("Advance of %s in the direction %s = %d; expected %d", showCurve(x.c), x.d, got, x.want)
		}
	}
}

// directions returns some, among them those from the beginning to the end of a curve and
// that of one of its derivatives.
func (s *source) directions(c api.Curve) []api.Point {
	first, last := curve.Ends(c)
	middle, _ := bezier.Tangent(c, span.Mid(curve.Domain(c)))
	along := vector.Sub(last, first)
	out := []api.Point{pt("1 0 0"), pt("0 1 0"), pt("0 0 1"), {}, along, vector.Scale(num("-1"), along), middle, vector.Scale(num("-1/9"), middle)}
	return append(out, s.point(), s.point())
}

func TestAdvanceOfModel(t *testing.T) {
	s := source(3)
	found := map[int]int{}
	for _, c := range curves() {
		m := modelOf(c)
		for _, d := range s.directions(c) {
			got := bezier.Advance(c, d)
			if want := m.advance(d); got != want {
				t.Fatalf("Advance of %s in the direction %s = %d; expected %d", showCurve(c), showPoint(d), got, want)
			}
			found[got]++
		}
	}
	if found[api.Yes] < 50 || found[api.No] < 50 || found[api.Open] < 50 {
		t.Errorf("answers: %v", found)
	}
}

// The chapter's consequence: with api.Yes, the curve moves in the direction, and with
// api.No it does not, here and in its parts.
func TestAdvanceIsCertain(t *testing.T) {
	s := source(4)
	for _, c := range curves() {
		all := modelOf(c).parameters()
		for _, d := range s.directions(c) {
			answer := bezier.Advance(c, d)
			if answer == api.Open {
				continue
			}
			for _, x := range all {
				tangent, _ := bezier.Tangent(c, rat(x))
				if sign := rational.Sign(vector.Dot(d, tangent)); (sign > 0) != (answer == api.Yes) {
					t.Fatalf("Advance of %s in the direction %s = %d, but the derivative at %s has the sign %d", showCurve(c), showPoint(d), answer, x.RatString(), sign)
				}
			}
			part, _ := bezier.Cut(c, rat(all[1]), rat(all[4]))
			if got := bezier.Advance(part, d); got != answer {
				t.Fatalf("Advance of a part of %s in the direction %s = %d, and of the whole %d", showCurve(c), showPoint(d), got, answer)
			}
		}
	}
}

// Parts become so short that answers are certain.
func TestAdvanceOfShortParts(t *testing.T) {
	part, _ := bezier.Cut(parabola(), num("0"), num("7/16"))
	if got := bezier.Advance(part, pt("0 1 0")); got != api.Yes {
		t.Errorf("Advance of the rising part = %d", got)
	}
	part, _ = bezier.Cut(parabola(), num("1/2"), num("1"))
	if got := bezier.Advance(part, pt("0 1 0")); got != api.No {
		t.Errorf("Advance of the falling part = %d", got)
	}
	part, _ = bezier.Cut(parabola(), num("0"), num("1/2"))
	if got := bezier.Advance(part, pt("0 1 0")); got != api.Open {
		t.Errorf("Advance of the part up to the top = %d", got)
	}
}

// Bezier curves but for the lengths of their numbers have all properties: parts of valid
// curves may be such.
func TestLongNumbers(t *testing.T) {
	c := quarter()
	c.Poles[1].P = api.Point{rat(powerOf2(api.MaxBits + 10)), num("1"), num("1")}
	c.Poles[2].W = rat(plus(powerOf2(api.MaxBits+3), big.NewRat(1, 3)))
	c.Knots = slices.Concat(list("0 0 0"), slices.Repeat([]api.Rat{rat(powerOf2(api.MaxBits))}, 3))
	expectError(t, "Check", bezier.Check(c), api.ErrSize)
	m := modelOf(c)
	for i, l := range coefficients(c) {
		expectText(t, "Numerators", show(bezier.Numerators(c)[i]...), show(each(l, rat)...))
	}
	for _, x := range m.parameters()[1:] {
		part, e := bezier.Cut(c, api.Rat{}, rat(x))
		expectError(t, "Cut", e, api.OK)
		expectText(t, "Cut", showCurve(part), showCurve(m.cut(new(big.Rat), x)))
		tangent, e := bezier.Tangent(c, rat(x))
		want := m.tangent(x)
		expectError(t, "Tangent", e, api.OK)
		expectText(t, "Tangent", showPoint(tangent), showPoint(api.Point(each(want[:], rat))))
	}
	for i, s := range bezier.Speed(c) {
		lo, hi := m.speed(i)
		expectText(t, "Speed", show(s.Lo, s.Hi), show(rat(lo), rat(hi)))
	}
	expectText(t, "Box", show(bezier.Box(c)[0].Hi), show(c.Poles[1].P[0]))
	expectText(t, "Chord", show(bezier.Chord(c)), show(vector.Segment(c.Poles[0].P, c.Poles[2].P, c.Poles[1].P)))
	if got := bezier.Advance(c, pt("0 0 1")); got != api.Open {
		t.Errorf("Advance = %d", got)
	}
}
