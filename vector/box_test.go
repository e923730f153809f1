package vector_test

import (
	"testing"

	"brepkernel/api"
	"brepkernel/rational"
	"brepkernel/span"
	"brepkernel/vector"
)

// P4.5

func points(texts ...string) []api.Point {
	var out []api.Point
	for _, text := range texts {
		out = append(out, pt(text))
	}
	return out
}

func box(low, high string) api.Box {
	a, b := pt(low), pt(high)
	return api.Box{{Lo: a[0], Hi: b[0]}, {Lo: a[1], Hi: b[1]}, {Lo: a[2], Hi: b[2]}}
}

func TestBoxOf(t *testing.T) {
	for _, c := range []struct {
		l    []api.Point
		want string
	}{
		{points("1 -2 1/3"), "1 -2 1/3; 1 -2 1/3"},
		{points("0 0 0"), "0 0 0; 0 0 0"},
		{points("0 1 2", "3 -1 2"), "0 -1 2; 3 1 2"},
		{points("3 -1 2", "0 1 2"), "0 -1 2; 3 1 2"},
		{points("5 5 5", "6 5 4", "5 5 5", "4 5 6"), "4 5 4; 6 5 6"},
		{points("0 0 0", "-1/3 1/3 0", "-1/2 1/2 1/18446744073709551616"), "-1/2 0 0; 0 1/2 1/18446744073709551616"},
	} {
		got, e := vector.BoxOf(c.l)
		expect(t, "BoxOf", showBox(got), c.want)
		if e != api.OK {
			t.Errorf("BoxOf: error %d", e)
		}
	}
}

func TestBoxOfNothing(t *testing.T) {
	for _, l := range [][]api.Point{nil, {}} {
		got, e := vector.BoxOf(l)
		expect(t, "BoxOf", showBox(got), "0 0 0; 0 0 0")
		if e != api.ErrArg {
			t.Errorf("BoxOf of nothing: error %d", e)
		}
	}
}

// A box that contains all points is the least one if each side has one of them.
func TestBoxOfIsLeast(t *testing.T) {
	s := source(13)
	for range 200 {
		var l []api.Point
		for range 1 + s.below(6) {
			l = append(l, s.point())
		}
		got, _ := vector.BoxOf(l)
		for i, side := range got {
			low, high := false, false
			for _, p := range l {
				low = low || rational.Same(side.Lo, p[i])
				high = high || rational.Same(side.Hi, p[i])
				if !span.Has(side, p[i]) {
					t.Fatalf("BoxOf: %s without %s", showBox(got), show(p))
				}
			}
			if !low || !high {
				t.Fatalf("BoxOf: %s has no point on a side", showBox(got))
			}
		}
	}
}

func TestMeets(t *testing.T) {
	unit := box("0 0 0", "1 1 1")
	for _, c := range []struct {
		b    api.Box
		want bool
	}{
		{unit, true},
		{box("1/4 1/4 1/4", "1/2 1/2 1/2"), true}, // inside
		{box("-1 -1 -1", "2 2 2"), true},          // around
		{box("1/2 -1 -1", "3/4 2 2"), true},       // through
		{box("1/2 1/2 1/2", "1/2 1/2 1/2"), true}, // a point
		{box("1 0 0", "2 1 1"), true},             // a side in common
		{box("0 -2 0", "1 0 1"), true},
		{box("0 0 1", "1 1 1"), true},
		{box("1 1 0", "2 2 1"), true},    // an edge
		{box("-1 -1 -1", "0 0 0"), true}, // a corner
		{box("1 1 1", "1 1 1"), true},
		{box("5/4 0 0", "2 1 1"), false}, // apart in one direction
		{box("0 5/4 0", "1 2 1"), false},
		{box("0 0 5/4", "1 1 2"), false},
		{box("-2 0 0", "-1/4 1 1"), false},
		{box("0 -2 0", "1 -1/4 1"), false},
		{box("0 0 -2", "1 1 -1/4"), false},
		{box("2 2 2", "3 3 3"), false},                                         // in all directions
		{box("1/2 1/2 3/2", "1/2 1/2 3/2"), false},                             // a point
		{box("18446744073709551617/18446744073709551616 0 0", "2 1 1"), false}, // by little
	} {
		if vector.Meets(unit, c.b) != c.want || vector.Meets(c.b, unit) != c.want {
			t.Errorf("Meets of the unit box and %s is not %v", showBox(c.b), c.want)
		}
	}
}

// A common point is in the common part of the sides, if each pair of sides has one.
func TestMeetsIsCommonPoint(t *testing.T) {
	s := source(14)
	for range 1000 {
		a, _ := vector.BoxOf([]api.Point{s.point(), s.point()})
		b, _ := vector.BoxOf([]api.Point{s.point(), s.point()})
		want := true
		for i := range 3 {
			low := rational.Max(a[i].Lo, b[i].Lo)
			want = want && span.Has(a[i], low) && span.Has(b[i], low)
		}
		if got := vector.Meets(a, b); got != want {
			t.Fatalf("Meets(%s; %s) is %v", showBox(a), showBox(b), got)
		}
	}
}

func TestSegment(t *testing.T) {
	for _, c := range []struct{ a, b, p, want string }{
		{"0 0 0", "2 0 0", "3 1 0", "2"},   // behind b
		{"0 0 0", "2 0 0", "-1 2 2", "9"},  // before a
		{"0 0 0", "2 0 0", "1 2 2", "8"},   // beside
		{"0 0 0", "2 0 0", "0 2 2", "8"},   // beside a
		{"0 0 0", "2 0 0", "2 2 2", "8"},   // beside b
		{"0 0 0", "2 0 0", "1/2 0 0", "0"}, // on the segment
		{"0 0 0", "2 0 0", "0 0 0", "0"},
		{"0 0 0", "2 0 0", "2 0 0", "0"},
		{"0 0 0", "2 0 0", "5/2 0 0", "1/4"}, // on its line
		{"0 0 0", "2 0 0", "-1/2 0 0", "1/4"},
		{"1 2 3", "1 2 3", "1 4 0", "13"}, // one point
		{"1 2 3", "1 2 3", "1 2 3", "0"},
		{"0 0 0", "1 1 1", "1 0 0", "2/3"},
		{"1 1 1", "2 2 2", "2 1 1", "2/3"},
		{"0 0 0", "1 1 1", "1 1 2", "1"},
		{"0 0 0", "18446744073709551616 0 0", "9223372036854775808 1/2 0", "1/4"},
	} {
		expect(t, "Segment", rational.Text(vector.Segment(pt(c.a), pt(c.b), pt(c.p))), c.want)
		expect(t, "Segment", rational.Text(vector.Segment(pt(c.b), pt(c.a), pt(c.p))), c.want)
	}
}

// The distance is that of one point of the segment, and no other one is nearer.
func TestSegmentIsLeast(t *testing.T) {
	s := source(15)
	for range 300 {
		a, b, p := s.point(), s.point(), s.point()
		got := vector.Segment(a, b, p)
		square := func(at api.Rat) api.Rat {
			away := vector.Sub(p, vector.Add(a, vector.Scale(at, vector.Sub(b, a))))
			return vector.Dot(away, away)
		}
		line := vector.Sub(b, a)
		nearest, _ := rational.Quo(vector.Dot(vector.Sub(p, a), line), vector.Dot(line, line))
		nearest = rational.Min(rational.Max(nearest, api.Rat{}), rational.Int(1))
		expect(t, "Segment", rational.Text(got), rational.Text(square(nearest)))
		for i := range int64(9) {
			at, _ := rational.Make(i, 8)
			if rational.Cmp(square(at), got) < 0 {
				t.Fatalf("Segment(%s; %s; %s) = %s: %s is nearer", show(a), show(b), show(p), rational.Text(got), rational.Text(at))
			}
		}
	}
}
