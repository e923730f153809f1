package patch_test

import (
	"math/big"
	"testing"

	"brepkernel/api"
	"brepkernel/bezier"
	"brepkernel/patch"
	"brepkernel/rational"
	"brepkernel/span"
	"brepkernel/surface"
	"brepkernel/vector"
)

// expectSlopes compares the two derivatives and the normal with those that are expected.
func expectSlopes(t *testing.T, s api.Surface, u, v api.Rat, byU, byV, normal string, want api.Errno) {
	t.Helper()
	what := showSurface(s) + " at " + show(u, v)
	a, b, e := patch.Derivs(s, u, v)
	expectError(t, "Derivs of "+what, e, want)
	expectText(t, "Derivs of "+what, showPoint(a)+"; "+showPoint(b), byU+"; "+byV)
	n, e := patch.Normal(s, u, v)
	expectError(t, "Normal of "+what, e, want)
	expectText(t, "Normal of "+what, showPoint(n), normal)
}

// P13.2
func TestSlopesOfExamples(t *testing.T) {
	weighted := overUnit("0 0 0 1; 0 1 0 1 | 1 0 0 2; 1 1 0 2")
	for _, x := range []struct {
		s                      api.Surface
		u, v, byU, byV, normal string
	}{
		{square(), "1/2", "1/3", "1 0 0", "0 1 0", "0 0 1"}, {surface.Swap(square()), "1/2", "1/3", "0 1 0", "1 0 0", "0 0 -1"},
		{saddle(), "1/2", "1/4", "1 0 1/4", "0 1 1/2", "-1/4 -1/2 1"}, {saddle(), "0", "0", "1 0 0", "0 1 0", "0 0 1"}, {saddle(), "1", "1", "1 0 1", "0 1 1", "-1 -1 1"},
		{over(saddle(), "2 6", "-1 1"), "4", "-1/2", "1/4 0 1/16", "0 1/2 1/4", "-1/32 -1/16 1/8"},
		{weighted, "0", "1", "2 0 0", "0 1 0", "0 0 2"}, {weighted, "1", "0", "1/2 0 0", "0 1 0", "0 0 1/2"}, {over(weighted, "0 4", "0 1/3"), "4", "0", "1/8 0 0", "0 3 0", "0 0 3/8"},
		{cone(), "0", "1", "0 2 0", "1 0 -3", "-6 0 -2"}, {cone(), "1/2", "1/2", "-16/25 12/25 0", "3/5 4/5 -3", "-36/25 -48/25 -4/5"},
		// The top of the cone: the side is one point.
		{cone(), "1/3", "0", "0 0 0", "4/5 3/5 -3", "0 0 0"},
		{octant(), "0", "0", "0 2 0", "0 0 2", "4 0 0"}, {octant(), "1", "1", "0 0 0", "0 -1 0", "0 0 0"}, {octant(), "1/2", "1/2", "-96/125 72/125 0", "-96/125 -128/125 24/25", "1728/3125 2304/3125 768/625"},
		{overUnit("1 2 3 1; 1 2 3 4 | 1 2 3 9; 1 2 3 1/2"), "1/2", "1/3", "0 0 0", "0 0 0", "0 0 0"},
	} {
		expectSlopes(t, x.s, num(x.u), num(x.v), x.byU, x.byV, x.normal, api.OK)
	}
}

func TestSlopes(t *testing.T) {
	for _, s := range patches() {
		m := modelOf(s)
		for _, u := range m.u.parameters() {
			for _, v := range m.v.parameters() {
				a, b := m.derivs(u, v)
				expectSlopes(t, s, rat(u), rat(v), showPoint(a.point()), showPoint(b.point()), showPoint(a.cross(b).point()), api.OK)
			}
		}
	}
}

func TestSlopesOutside(t *testing.T) {
	for _, s := range patches() {
		m := modelOf(s)
		outsideU, outsideV := m.u.outside(), m.v.outside()
		for i, u := range outsideU {
			inU, inV := rat(m.u.parameters()[i%6]), rat(m.v.parameters()[i%6])
			for _, at := range [][2]api.Rat{{rat(u), inV}, {inU, rat(outsideV[i])}, {rat(u), rat(outsideV[i])}} {
				expectSlopes(t, s, at[0], at[1], "0 0 0", "0 0 0", "0 0 0", api.ErrRange)
			}
		}
	}
}

// The derivatives are what quotients of small differences come near to: with half the
// difference, they come about twice as near.
func TestDerivsAreDerivatives(t *testing.T) {
	for _, s := range patches() {
		m := modelOf(s)
		share := big.NewRat(1, 3)
		u, v := between(m.u.lo, m.u.hi, share), between(m.v.lo, m.v.hi, share)
		byU, byV, _ := patch.Derivs(s, rat(u), rat(v))
		p, _ := surface.Eval(s, rat(u), rat(v))
		away := func(derivative api.Point, stepU, stepV *big.Rat) *big.Rat {
			q, _ := surface.Eval(s, rat(plus(u, stepU)), rat(plus(v, stepV)))
			chord := vector.Scale(rat(quotient(big.NewRat(1, 1), plus(stepU, stepV))), vector.Sub(q, p))
			d := tripleOf(vector.Sub(chord, derivative))
			return d.dot(d)
		}
		far, near, none := big.NewRat(1, 1<<40), big.NewRat(1, 1<<41), new(big.Rat)
		for _, x := range [][2]*big.Rat{
			{away(byU, times(far, m.u.width()), none), away(byU, times(near, m.u.width()), none)},
			{away(byV, none, times(far, m.v.width())), away(byV, none, times(near, m.v.width()))},
		} {
			if times(x[1], big.NewRat(3, 1)).Cmp(x[0]) > 0 {
				t.Fatalf("Derivs of %s are no derivatives", showSurface(s))
			}
		}
	}
}

// The normals of a sphere around the origin have the direction of its points.
func TestNormalsOfSphere(t *testing.T) {
	for _, at := range few(octant()) {
		p, _ := surface.Eval(octant(), at[0], at[1])
		n, e := patch.Normal(octant(), at[0], at[1])
		expectError(t, "Normal", e, api.OK)
		expectText(t, "the square of the radius", show(vector.Dot(p, p)), "1")
		if !vector.Zero(vector.Cross(p, n)) || rational.Sign(vector.Dot(p, n)) < 0 {
			t.Errorf("Normal of the sphere at %s is %s", showPoint(p), showPoint(n))
		}
	}
}

// P13.3
func TestSpeedsOfExamples(t *testing.T) {
	weighted := overUnit("0 0 0 1; 0 1 0 1 | 1 0 0 2; 1 1 0 2")
	for _, x := range []struct {
		s                 api.Surface
		byU, byV, normals string
	}{
		{square(), "1 1; 0 0; 0 0", "0 0; 1 1; 0 0", "0 0; 0 0; 1 1"}, {saddle(), "1 1; 0 0; 0 1", "0 0; 1 1; 0 1", "-1 0; -1 0; 1 1"},
		{over(saddle(), "2 6", "-1 1"), "1/4 1/4; 0 0; 0 1/4", "0 0; 1/2 1/2; 0 1/2", "-1/8 0; -1/8 0; 1/8 1/8"},
		// q by u is 2 for x, q by v the square of the weight for y: both are divided by 1 to 4.
		{weighted, "1/2 2; 0 0; 0 0", "0 0; 1/4 4; 0 0", "0 0; 0 0; 1/8 8"}, {over(weighted, "0 4", "0 1/3"), "1/8 1/2; 0 0; 0 0", "0 0; 3/4 12; 0 0", "0 0; 0 0; 3/32 6"},
		{surface.MirrorU(saddle()), "-1 -1; 0 0; -1 0", "0 0; 1 1; 0 1", "0 1; 0 1; -1 -1"},
		// The weight is 2: q for z by u has the degree 3 in u, with the coefficients 8, 8/3, -8/3 and -8.
		{overUnit("0 0 0 2; 0 1 0 2 | 1 0 1 2; 1 1 1 2 | 2 0 0 2; 2 1 0 2"), "2 2; 0 0; -2 2", "0 0; 1 1; 0 0", "-2 2; 0 0; 2 2"},
		// The coefficients of n' are 3, -3 and 0; those of q, of the degree 5, lie between -3/2 and 3.
		{overUnit("0 0 0 1; 0 1 0 1 | 0 0 1 1; 0 1 1 1 | 0 0 0 1; 0 1 0 1 | 0 0 0 1; 0 1 0 1"), "0 0; 0 0; -3/2 3", "0 0; 1 1; 0 0", "-3 3/2; 0 0; 0 0"},
		{cone(), "-4 0; 0 2; 0 0", "0 1; 0 4; -12 -3/4", "-24 0; -48 0; -18 0"},
		{overUnit("7 7 7 1; 7 7 7 3 | 7 7 7 1; 7 7 7 1/2"), "0 0; 0 0; 0 0", "0 0; 0 0; 0 0", "0 0; 0 0; 0 0"},
	} {
		a, b := patch.Speeds(x.s)
		expectText(t, "Speeds of "+showSurface(x.s), showBox(a)+" and "+showBox(b), x.byU+" and "+x.byV)
		expectText(t, "Normals of "+showSurface(x.s), showBox(patch.Normals(x.s)), x.normals)
	}
}

func TestSpeeds(t *testing.T) {
	for _, s := range patches() {
		a, b := patch.Speeds(s)
		byU, byV := modelOf(s).speeds()
		expectText(t, "Speeds of "+showSurface(s), showBox(a)+" and "+showBox(b), showBox(byU.box())+" and "+showBox(byV.box()))
		expectText(t, "Normals of "+showSurface(s), showBox(patch.Normals(s)), showBox(normals(byU, byV).box()))
	}
}

// expectIn looks whether a box contains a point.
func expectIn(t *testing.T, what string, box api.Box, p api.Point) {
	t.Helper()
	for i := range box {
		if !span.Has(box[i], p[i]) {
			t.Fatalf("%s: %s has not %s", what, showBox(box), showPoint(p))
		}
	}
}

func TestBoxesHaveSlopes(t *testing.T) {
	for _, s := range patches() {
		boxU, boxV := patch.Speeds(s)
		boxN := patch.Normals(s)
		for _, at := range few(s) {
			byU, byV, _ := patch.Derivs(s, at[0], at[1])
			normal, _ := patch.Normal(s, at[0], at[1])
			expectIn(t, "Speeds of "+showSurface(s)+" by u", boxU, byU)
			expectIn(t, "Speeds of "+showSurface(s)+" by v", boxV, byV)
			expectIn(t, "Normals of "+showSurface(s), boxN, normal)
		}
	}
}

// Parts become so small that it is certain that there are normals.
func TestNormalsOfSmallParts(t *testing.T) {
	normals := func(u, v string) api.Box {
		ends := func(text string) api.Span { return api.Span{Lo: list(text)[0], Hi: list(text)[1]} }
		part, e := surface.Cut(octant(), ends(u), ends(v))
		expectError(t, "Cut", e, api.OK)
		return patch.Normals(part)
	}
	sure := func(b api.Box) bool {
		for _, s := range b {
			if !span.Has(s, api.Rat{}) {
				return true
			}
		}
		return false
	}
	if !sure(normals("1/2 9/16", "1/2 9/16")) {
		t.Errorf("Normals of a small part of a sphere: %s", showBox(normals("1/2 9/16", "1/2 9/16")))
	}
	if sure(normals("1/2 9/16", "15/16 1")) {
		t.Errorf("Normals of a part with the pole of a sphere: %s", showBox(normals("1/2 9/16", "15/16 1")))
	}
}

// A patch whose rows are all the same curve has its speed, by v.
func TestSpeedsOfCurve(t *testing.T) {
	s := source(4)
	for degree := 1; degree <= api.MaxDegree; degree++ {
		x := s.patchOf(1, degree, s.number)
		c := api.Curve{Degree: degree, Knots: x.KnotsV, Poles: x.Poles[0]}
		x.Poles[1] = x.Poles[0]
		byU, byV := patch.Speeds(x)
		expectText(t, "Speeds by u", showBox(byU), "0 0; 0 0; 0 0")
		expectText(t, "Speeds by v", showBox(byV), showBox(bezier.Speed(c)))
	}
}

// Patches but for the lengths of their numbers have all properties: parts of valid
// surfaces may be such.
func TestLongNumbers(t *testing.T) {
	s := cone()
	s.Poles[1][1].P = api.Point{rat(powerOf2(api.MaxBits + 10)), num("1"), num("1")}
	s.Poles[2][1].W = rat(plus(powerOf2(api.MaxBits+3), big.NewRat(1, 3)))
	s.KnotsU[3], s.KnotsU[4], s.KnotsU[5] = rat(powerOf2(api.MaxBits)), rat(powerOf2(api.MaxBits)), rat(powerOf2(api.MaxBits))
	expectError(t, "Check", patch.Check(s), api.ErrSize)
	m := modelOf(s)
	for i, c := range coefficients(s) {
		expectText(t, "Numerators", show(patch.Numerators(s)[i].C...), show(each(c.all(), rat)...))
	}
	for _, at := range few(s) {
		a, b := m.derivs(value(at[0]), value(at[1]))
		expectSlopes(t, s, at[0], at[1], showPoint(a.point()), showPoint(b.point()), showPoint(a.cross(b).point()), api.OK)
	}
	boxU, boxV := patch.Speeds(s)
	byU, byV := m.speeds()
	expectText(t, "Speeds", showBox(boxU)+" and "+showBox(boxV), showBox(byU.box())+" and "+showBox(byV.box()))
	expectText(t, "Normals", showBox(patch.Normals(s)), showBox(normals(byU, byV).box()))
	expectText(t, "Box", show(patch.Box(s)[0].Hi), show(s.Poles[1][1].P[0]))
	if got := patch.Sides(s); got != [4]bool{2: true} {
		t.Errorf("Sides = %v", got)
	}
	_, e := patch.Flat(s)
	expectError(t, "Flat of a patch whose side is a point", e, api.ErrFlat)
	got, e := patch.Flat(surface.MirrorV(s))
	expectError(t, "Flat", e, api.OK)
	expectText(t, "Flat", show(got), show(rat(flat(surface.MirrorV(s)))))
}
