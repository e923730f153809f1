package patch_test

import (
	"math/big"
	"slices"
	"testing"

	"brepkernel/api"
	"brepkernel/patch"
	"brepkernel/span"
	"brepkernel/surface"
	"brepkernel/vector"
)

// P13.1
func TestCheckOfPatches(t *testing.T) {
	for _, s := range patches() {
		expectError(t, "Check of "+showSurface(s), patch.Check(s), api.OK)
	}
	for _, s := range splines() {
		for _, piece := range surface.Patches(s) {
			expectError(t, "Check of "+showSurface(piece), patch.Check(piece), api.OK)
		}
	}
}

// splines returns valid surfaces with inner knots: of each degree, with a knot that
// occurs each possible number of times, and with several of them, in one direction and
// in both.
func splines() []api.Surface {
	s := source(2)
	var out []api.Surface
	for degree := 1; degree <= api.MaxDegree; degree++ {
		inner := [][]api.Rat{list("1/7 2/7 1/2 3/4")}
		for n := range degree {
			inner = append(inner, slices.Repeat(list("1/3"), n+1))
		}
		for _, l := range inner {
			x := s.patchOf(degree, 1+degree%3, s.simple)
			x.KnotsU = slices.Concat(slices.Repeat(list("0"), degree+1), l, slices.Repeat(list("1"), degree+1))
			x.Poles = slices.Concat(x.Poles, slices.Repeat(x.Poles[:1], len(l)))
			y := surface.Swap(x)
			both, _ := surface.InsertV(x, span.Mid(api.Span{Lo: x.KnotsV[0], Hi: x.KnotsV[x.V+1]}))
			out = append(out, x, y, both)
		}
	}
	return append(out, hill())
}

func TestCheckOfInnerKnots(t *testing.T) {
	for _, s := range splines() {
		expectError(t, "surface.Check of "+showSurface(s), surface.Check(s), api.OK)
		expectError(t, "Check of "+showSurface(s), patch.Check(s), api.ErrKnots)
	}
}

// wrongNumbers returns some numbers that are not valid.
func wrongNumbers() []api.Rat {
	return []api.Rat{
		{Neg: true}, {Num: []uint32{0}}, {Num: []uint32{5, 0, 0}}, {Den: []uint32{0}}, {Num: []uint32{1}, Den: []uint32{0}},
		{Num: []uint32{1}, Den: []uint32{0, 0, 0, 0}}, {Neg: true, Num: []uint32{0, 0, 0}, Den: []uint32{0, 0, 0}},
		{Num: []uint32{1}, Den: []uint32{1}}, {Den: []uint32{7}}, {Num: []uint32{6}, Den: []uint32{4}}, {Num: []uint32{0, 0, 6}, Den: []uint32{0, 4, 0}},
		{Num: []uint32{1, 2, 3, 0}, Den: []uint32{0, 0, 0, 0, 0}},
	}
}

// fault makes a surface wrong.
type fault struct {
	with func(s *api.Surface)
	want api.Errno
}

// faults returns some that surface.Check finds in octants and hills, in its order.
func faults() []fault {
	return []fault{
		{func(s *api.Surface) { s.Poles[2][2].W = api.Rat{Num: []uint32{2}, Den: []uint32{2}} }, api.ErrArg},
		{func(s *api.Surface) { s.KnotsV[1] = api.Rat{Neg: true} }, api.ErrArg},
		{func(s *api.Surface) { s.U = 7 }, api.ErrArg},
		{func(s *api.Surface) { s.U = 0 }, api.ErrArg},
		{func(s *api.Surface) { s.KnotsU = s.KnotsU[:5] }, api.ErrKnots},
		{func(s *api.Surface) { s.KnotsU = append(s.KnotsU, slices.Repeat(list("3"), 40)...) }, api.ErrSize},
		{func(s *api.Surface) { s.KnotsU[1] = num("-1") }, api.ErrKnots},
		{func(s *api.Surface) { s.V = 7 }, api.ErrArg},
		{func(s *api.Surface) { s.V = -3 }, api.ErrArg},
		{func(s *api.Surface) { s.KnotsV = s.KnotsV[1:] }, api.ErrKnots},
		{func(s *api.Surface) { s.KnotsV[1] = num("7") }, api.ErrKnots},
		{func(s *api.Surface) { s.Poles = s.Poles[:2] }, api.ErrArg},
		{func(s *api.Surface) { s.Poles[1] = s.Poles[1][:2] }, api.ErrArg},
		{func(s *api.Surface) { s.Poles[2] = append(s.Poles[2], s.Poles[2][0]) }, api.ErrArg},
		{func(s *api.Surface) { s.Poles[0][0].W = num("-1") }, api.ErrWeight},
		{func(s *api.Surface) { s.Poles[2][1].W = api.Rat{} }, api.ErrWeight},
		{func(s *api.Surface) { s.Poles[0][1].P[2] = rat(powerOf2(api.MaxBits)) }, api.ErrSize},
	}
}

// The errors of surface.Check come first, whether or not there are inner knots.
func TestCheckOfFaults(t *testing.T) {
	for _, f := range faults() {
		for _, s := range []api.Surface{octant(), hill()} {
			f.with(&s)
			expectError(t, "surface.Check of "+showSurface(s), surface.Check(s), f.want)
			expectError(t, "Check of "+showSurface(s), patch.Check(s), f.want)
		}
	}
	for i := range numbersOf(octant()) {
		for _, r := range wrongNumbers() {
			s := octant()
			*numbersOf(s)[i] = r
			expectError(t, "Check with a wrong number", patch.Check(s), api.ErrArg)
		}
	}
	for bits, want := range map[int]api.Errno{api.MaxBits - 1: api.OK, api.MaxBits: api.ErrSize} {
		s := octant()
		s.Poles[1][2].P[0] = rat(powerOf2(bits))
		expectError(t, "Check with a long numerator", patch.Check(s), want)
		s.Poles[1][2].P[0] = rat(quotient(big.NewRat(-1, 1), powerOf2(bits)))
		expectError(t, "Check with a long denominator", patch.Check(s), want)
	}
	expectError(t, "Check of nothing", patch.Check(api.Surface{}), api.ErrArg)
}

func TestNumerators(t *testing.T) {
	got := patch.Numerators(overUnit("1 2 3 1; 4 5 6 1/2; 0 0 1 3 | 7 8 -9 2; 1/3 0 0 6; 0 -1 0 1"))
	for i, want := range []string{"1 2 0 14 2 0", "2 5/2 0 16 0 -1", "3 3 3 -18 0 0", "1 1/2 3 2 6 1"} {
		expectText(t, "Numerators", show(got[i].C...), want)
		if got[i].U != 1 || got[i].V != 2 {
			t.Errorf("Numerators of the degrees %d and %d", got[i].U, got[i].V)
		}
	}
	for _, s := range patches() {
		got := patch.Numerators(s)
		for i, want := range coefficients(s) {
			expectText(t, "Numerators of "+showSurface(s), show(got[i].C...), show(each(want.all(), rat)...))
			if got[i].U != s.U || got[i].V != s.V {
				t.Fatalf("Numerators of %s: degrees %d and %d", showSurface(s), got[i].U, got[i].V)
			}
		}
	}
}

func TestBox(t *testing.T) {
	expectText(t, "Box", showBox(patch.Box(cone())), "0 1; 0 1; 0 3")
	expectText(t, "Box", showBox(patch.Box(overUnit("3 -1 2 7; -5 -1 1/2 1 | 0 -1 9 1/9; -1 -1 1 1"))), "-5 3; -1 -1; 1/2 9")
	for _, s := range patches() {
		var want bounds
		for i := range want {
			want[i] = hull(each(polesOf(s), func(p *api.Pole) *big.Rat { return value(p.P[i]) })...)
		}
		expectText(t, "Box of "+showSurface(s), showBox(patch.Box(s)), showBox(want.box()))
	}
}

// few returns some parameters of a patch in both directions.
func few(s api.Surface) [][2]api.Rat {
	m := modelOf(s)
	var out [][2]api.Rat
	for i, u := range m.u.parameters() {
		for j, v := range m.v.parameters() {
			if (i+j)%3 == 0 {
				out = append(out, [2]api.Rat{rat(u), rat(v)})
			}
		}
	}
	return out
}

// The chapter's consequence; parts have boxes within the box of the whole.
func TestPatchLiesInBox(t *testing.T) {
	for _, s := range patches() {
		box := patch.Box(s)
		for _, at := range few(s) {
			p, _ := surface.Eval(s, at[0], at[1])
			for i := range box {
				if !span.Has(box[i], p[i]) {
					t.Fatalf("Box of %s has not the point at %s", showSurface(s), show(at[:]...))
				}
			}
		}
		u, v := surface.Domain(s)
		lower, _ := span.Halves(u)
		_, upper := span.Halves(v)
		part, _ := surface.Cut(s, lower, upper)
		for i, x := range patch.Box(part) {
			if !span.Inside(x, box[i]) {
				t.Fatalf("Box of %s has not that of a part", showSurface(s))
			}
		}
	}
}

// P13.4
func TestFlat(t *testing.T) {
	for text, want := range map[string]string{
		"0 0 0 1; 0 1 0 1 | 1 0 0 1; 1 1 1 1":                                               "1",
		"0 0 0 1; 0 1 0 1 | 1 0 0 1; 1 1 -3 7":                                              "9",
		"0 0 0 1; 0 1 0 1 | 1 0 0 1; 5 -7 0 1":                                              "0",
		"0 0 1 1; 0 2 1 1 | 3 0 1 1; 3 2 1/2 1":                                             "1/4",
		"1 0 0 1; 0 0 1 1 | 0 1 0 1; 0 0 0 1":                                               "1/3",
		"1 0 0 3; 0 0 1 1 | 0 1 0 1; 1 1 1 1/5":                                             "4/3",
		"0 0 0 1; 0 1 2 1; 0 2 0 1 | 1 0 0 1; 1 1 0 1; 1 2 1 1":                             "4",
		"0 0 0 1; 0 1 1 1; 0 2 0 1 | 1 0 0 1; 1 1 -3 1; 1 2 2 1":                            "9",
		"0 0 0 1; 0 1 0 1; 0 2 0 1 | 1 0 5 1; 1 1 0 1; 1 2 1 1 | 2 0 0 1; 2 1 4 1; 2 2 1 1": "25",
		"0 0 0 1; 0 3 4 1 | 7 0 0 1; 0 4 -3 1":                                              "25",
	} {
		got, e := patch.Flat(overUnit(text))
		expectError(t, "Flat of "+text, e, api.OK)
		expectText(t, "Flat of "+text, show(got), want)
	}
	none := 0
	for _, s := range patches() {
		got, e := patch.Flat(s)
		want := flat(s)
		if want == nil {
			expectError(t, "Flat of "+showSurface(s), e, api.ErrFlat)
			expectText(t, "Flat of "+showSurface(s), show(got), "0")
			none++
			continue
		}
		expectError(t, "Flat of "+showSurface(s), e, api.OK)
		expectText(t, "Flat of "+showSurface(s), show(got), show(rat(want)))
	}
	if none < 10 {
		t.Errorf("only %d patches have no plane", none)
	}
}

// Three corners count, wherever the other poles are.
func TestFlatOfCornersOnLine(t *testing.T) {
	for _, text := range []string{
		"1 1 1 1; 1 1 1 1 | 1 1 1 1; 1 1 1 1", "1 1 1 1; 1 1 1 5 | 2 0 7 1; 1 5 0 1", "1 1 1 1; 2 0 7 1 | 1 1 1 3; 1 5 0 1", "1 1 1 1; 2 0 7 1 | 2 0 7 1; 1 5 0 1",
		"0 0 0 1; 1 2 3 1 | 2 4 6 1; 1 1 1 1", "0 0 0 1; -1 -2 -3 1 | 2 4 6 1; 1 1 1 1", "1/2 0 0 1; 1 0 0 1 | 1/3 0 0 1; 0 1 0 1",
		"0 0 0 1; 5 0 7 1; 1 0 0 1 | 0 1 0 1; 4 4 4 1; 3 0 1 1 | 2 0 0 1; 3 3 1 1; 9 9 8 1",
	} {
		got, e := patch.Flat(overUnit(text))
		expectError(t, "Flat of "+text, e, api.ErrFlat)
		expectText(t, "Flat of "+text, show(got), "0")
	}
}

// The chapter's consequence.
func TestPatchLiesNearPlane(t *testing.T) {
	for _, s := range patches() {
		bound, e := patch.Flat(s)
		if e != api.OK {
			continue
		}
		c := corners(s)
		q, _ := vector.Through(c[0].point(), c[1].point(), c[2].point())
		for _, at := range few(s) {
			p, _ := surface.Eval(s, at[0], at[1])
			away := minus(value(vector.Dot(q.N, p)), value(q.D))
			if times(away, away).Cmp(times(value(bound), value(vector.Dot(q.N, q.N)))) > 0 {
				t.Fatalf("Flat of %s is less than the distance of the point at %s", showSurface(s), show(at[:]...))
			}
		}
	}
}

func TestSides(t *testing.T) {
	for _, x := range []struct {
		s    api.Surface
		want [4]bool
	}{
		{square(), [4]bool{}}, {cone(), [4]bool{false, false, true, false}}, {octant(), [4]bool{false, false, false, true}},
		{overUnit("0 0 0 1; 0 0 0 5 | 1 0 0 1; 1 0 1 1"), [4]bool{true, false, false, false}},
		{overUnit("0 0 0 1; 0 0 0 5 | 1 0 0 1; 1 0 0 3"), [4]bool{true, true, false, false}},
		{overUnit("0 0 0 1; 1 2 3 1 | 0 0 0 1; 1 2 3 4"), [4]bool{false, false, true, true}},
		{overUnit("7 8 9 1; 7 8 9 2 | 7 8 9 3; 7 8 9 4"), [4]bool{true, true, true, true}},
		// Ends of a side that are one point do not make it one.
		{overUnit("0 0 0 1; 0 0 1 1; 0 0 0 1 | 1 0 0 1; 1 0 0 1; 1 0 0 1"), [4]bool{false, true, false, false}},
		{overUnit("0 0 0 1; 0 0 1 1; 0 0 0 1 | 1 0 0 1; 1 0 2 1; 1 0 0 1"), [4]bool{}},
		{overUnit("0 0 0 1; 0 0 0 1; 0 0 1 1 | 1 0 0 1; 1 0 2 1; 1 0 2 1"), [4]bool{}},
		{overUnit("0 0 0 1; 1 1 1 1 | 1 0 0 1; 2 2 2 1 | 0 0 0 1; 1 1 1 1"), [4]bool{}},
		{overUnit("0 0 0 1; 1 1 1 1 | 0 0 0 1; 1 1 1 1 | 3 0 0 1; 1 1 1 1"), [4]bool{false, false, false, true}},
		// One coordinate suffices to make points different.
		{overUnit("0 0 0 1; 0 0 1/9 1 | 0 0 0 1; 1 0 0 1"), [4]bool{false, false, true, false}},
		{overUnit("0 0 0 1; 1 0 0 1 | 0 1 0 1; 0 1 0 1"), [4]bool{false, true, false, false}},
	} {
		if got := patch.Sides(x.s); got != x.want {
			t.Errorf("Sides of %s = %v; expected %v", showSurface(x.s), got, x.want)
		}
	}
}

// All sets of sides that are single points, in all degrees.
func TestSidesOfModel(t *testing.T) {
	s := source(3)
	for u := 1; u <= api.MaxDegree; u++ {
		for v := 1; v <= api.MaxDegree; v++ {
			for n := range 16 {
				x := withPoints(s.patchOf(u, v, s.number), n)
				got := patch.Sides(x)
				for k, poles := range sidesOf(x) {
					want := !slices.ContainsFunc(poles, func(p *api.Pole) bool { return showPoint(p.P) != showPoint(poles[0].P) })
					if got[k] != want || n>>k&1 == 1 && !want {
						t.Fatalf("Sides of %s = %v", showSurface(x), got)
					}
				}
			}
		}
	}
}

// The chapter's consequence: a side that is a single point is one for all parameters.
func TestSideIsPoint(t *testing.T) {
	for _, s := range patches() {
		u, v := surface.Domain(s)
		sides := patch.Sides(s)
		for k, at := range [4]api.Rat{u.Lo, u.Hi, v.Lo, v.Hi} {
			line := surface.IsoU
			if k > 1 {
				line = surface.IsoV
			}
			c, _ := line(s, at)
			single := !slices.ContainsFunc(c.Poles, func(p api.Pole) bool { return !vector.Same(p.P, c.Poles[0].P) })
			if single != sides[k] {
				t.Fatalf("Sides of %s = %v, but the curve at the side %d is %v", showSurface(s), sides, k, c)
			}
		}
	}
}
