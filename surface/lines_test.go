package surface_test

import (
	"math/big"
	"slices"
	"testing"

	"brepkernel/api"
	"brepkernel/curve"
	"brepkernel/surface"
)

// P12.3

func TestInsertOfExamples(t *testing.T) {
	for _, x := range []struct {
		of   func(s api.Surface, t api.Rat) (api.Surface, api.Errno)
		s    api.Surface
		at   string
		want string
	}{
		{surface.InsertU, saddle(), "1/2", "1 1: 0 0 1/2 1 1: 0 0 1 1: 0 0 0 1; 0 1 0 1 | 1/2 0 0 1; 1/2 1 1/2 1 | 1 0 0 1; 1 1 1 1"},
		{surface.InsertV, saddle(), "1/4", "1 1: 0 0 1 1: 0 0 1/4 1 1: 0 0 0 1; 0 1/4 0 1; 0 1 0 1 | 1 0 0 1; 1 1/4 1/4 1; 1 1 1 1"},
		{surface.InsertV, hill(), "3/2", "2 1: 0 0 0 1 3 3 3: 0 0 1 3/2 2 2: 0 0 0 1; 0 1 0 2; 0 5/3 1/3 3/2; 0 3 1 1 | 1 0 1 1; 1 1 4 1/3; 1 19/7 10/7 7/6; 1 3 1 2 | " +
			"2 0 1 3; 2 1 -5 1; 2 2 -2 1; 2 3 1 1 | 4 0 0 1; 4 1 0 1; 4 8/3 5/12 3; 4 3 1/2 5"},
		{surface.InsertU, hill(), "1", "2 1: 0 0 0 1 1 3 3 3: 0 0 1 2 2: 0 0 0 1; 0 1 0 2; 0 3 1 1 | 1 0 1 1; 1 1 4 1/3; 1 3 1 2 | " +
			"8/5 0 1 5/3; 8/5 1 -7/5 5/9; 6/5 3 1 5/3 | 2 0 1 3; 2 1 -5 1; 2 3 1 1 | 4 0 0 1; 4 1 0 1; 4 3 1/2 5"},
	} {
		got, e := x.of(x.s, num(x.at))
		expectText(t, "an insertion at "+x.at, showSurface(got), x.want)
		expectError(t, "an insertion at "+x.at, e, api.OK)
	}
}

func TestElevateOfExamples(t *testing.T) {
	u, e := surface.ElevateU(saddle())
	v, f := surface.ElevateV(surfaceOf(1, 1, "0 0 1 1", "0 0 1 3 3", "0 0 0 1; 1 1 0 1; 1 5 0 1 | 0 0 2 1; 2 4 6 3; 1 5 0 1"))
	expectText(t, "ElevateU", showSurface(u), "2 1: 0 0 0 1 1 1: 0 0 1 1: 0 0 0 1; 0 1 0 1 | 1/2 0 0 1; 1/2 1 1/2 1 | 1 0 0 1; 1 1 1 1")
	expectText(t, "ElevateV", showSurface(v), "1 2: 0 0 1 1: 0 0 0 1 1 3 3 3: 0 0 0 1; 1/2 1/2 0 1; 1 1 0 1; 1 3 0 1; 1 5 0 1 | "+
		"0 0 2 1; 3/2 3 5 2; 2 4 6 3; 7/4 17/4 9/2 2; 1 5 0 1")
	expectError(t, "ElevateU", e, api.OK)
	expectError(t, "ElevateV", f, api.OK)
}

// operation is a function that changes a surface in one direction, with what it does to
// the curves in this direction and to the side.
type operation struct {
	name  string
	u     bool
	of    func(s api.Surface) (api.Surface, api.Errno)
	lines func(c api.Curve) (api.Curve, api.Errno)
	side  func(d side) (side, api.Errno)
}

// operations returns those of P12.3, with a parameter for each direction.
func operations(u, v *big.Rat) []operation {
	insertion := func(x *big.Rat) (func(c api.Curve) (api.Curve, api.Errno), func(d side) (side, api.Errno)) {
		return func(c api.Curve) (api.Curve, api.Errno) { return curve.Insert(c, rat(x)) }, func(d side) (side, api.Errno) { return inserted(d, x) }
	}
	linesU, sideU := insertion(u)
	linesV, sideV := insertion(v)
	return []operation{
		{"InsertU at " + u.RatString(), true, func(s api.Surface) (api.Surface, api.Errno) { return surface.InsertU(s, rat(u)) }, linesU, sideU},
		{"InsertV at " + v.RatString(), false, func(s api.Surface) (api.Surface, api.Errno) { return surface.InsertV(s, rat(v)) }, linesV, sideV},
		{"ElevateU", true, surface.ElevateU, curve.Elevate, elevated},
		{"ElevateV", false, surface.ElevateV, curve.Elevate, elevated},
	}
}

// inserted returns what P10.3 says: the side with x, or the error.
func inserted(d side, x *big.Rat) (side, api.Errno) {
	switch {
	case x.Cmp(d.first()) <= 0 || x.Cmp(d.last()) >= 0:
		return side{}, api.ErrRange
	case count(d.k, x) >= d.degree:
		return side{}, api.ErrKnots
	case d.poles() >= api.MaxPoles:
		return side{}, api.ErrSize
	}
	return d.with(x), api.OK
}

// elevated returns what P10.5 says.
func elevated(d side) (side, api.Errno) {
	up := d.elevated()
	switch {
	case d.degree == api.MaxDegree:
		return side{}, api.ErrRange
	case up.poles() > api.MaxPoles:
		return side{}, api.ErrSize
	}
	return up, api.OK
}

// expectOperation looks whether an operation does what it should, and returns the error.
func expectOperation(t *testing.T, o operation, s api.Surface) api.Errno {
	t.Helper()
	m := modelOf(s)
	u, v := m.u, m.v
	changed, lines := &v, rowsOf
	if o.u {
		changed, lines = &u, columnsOf
	}
	d, want := o.side(*changed)
	*changed = d
	got, e := o.of(s)
	what := o.name + " of " + showSurface(s)
	expectError(t, what, e, want)
	if e != api.OK {
		expectNothing(t, what, got)
		return e
	}
	expectSurface(t, what, got, u, v, s)
	for i, c := range lines(s) {
		wanted, _ := o.lines(c)
		expectText(t, what+": a curve", showCurve(lines(got)[i]), showCurve(wanted))
	}
	return e
}

func TestOperations(t *testing.T) {
	s := source(4)
	found := map[string]map[api.Errno]int{}
	for _, x := range append(surfaces(), fullSurfaces()...) {
		m := modelOf(x)
		pick := func(d side) *big.Rat {
			all := slices.Concat(d.parameters(), d.inner(), d.inner(), d.outside())
			return all[s.below(len(all))]
		}
		for n := range 3 {
			for i, o := range operations(pick(m.u), pick(m.v)) {
				if i > 1 && n > 0 {
					break
				}
				name := []string{"InsertU", "InsertV", "ElevateU", "ElevateV"}[i]
				if found[name] == nil {
					found[name] = map[api.Errno]int{}
				}
				found[name][expectOperation(t, o, x)]++
			}
		}
	}
	for name, errors := range found {
		for _, e := range []api.Errno{api.OK, api.ErrRange, api.ErrKnots, api.ErrSize} {
			if errors[e] < 3 && (e != api.ErrKnots || name[0] == 'I') {
				t.Errorf("%s: these surfaces find the error %d %d times", name, e, errors[e])
			}
		}
	}
}

// The first error decides: of a knot at an end, of one that occurs often enough, and of
// a surface with the most poles in this direction. The poles in the other direction do
// not count.
func TestOperationOrder(t *testing.T) {
	s := source(5)
	low := sideOf(1, 3)
	for _, d := range []side{sideOf(3, api.MaxPoles), sideOf(6, api.MaxPoles), sideOf(1, api.MaxPoles)} {
		twice := sideOf(d.degree, api.MaxPoles+1-d.degree)
		twice = twice.with(repeat(twice.inner()[2], d.degree-1)...)
		for _, x := range []struct {
			d    side
			at   *big.Rat
			want api.Errno
		}{
			{d, d.first(), api.ErrRange}, {d, d.last(), api.ErrRange}, {d, plus(d.last(), big.NewRat(1, 2)), api.ErrRange}, {d, big.NewRat(1, 20), api.ErrSize},
			{twice, twice.inner()[2], api.ErrKnots}, {twice, twice.last(), api.ErrRange}, {twice, big.NewRat(1, 20), api.ErrSize},
		} {
			tall, wide := s.surface(x.d, low, s.simple), s.surface(low, x.d, s.simple)
			_, e := surface.InsertU(tall, rat(x.at))
			_, f := surface.InsertV(wide, rat(x.at))
			expectError(t, "InsertU at "+x.at.RatString(), e, x.want)
			expectError(t, "InsertV at "+x.at.RatString(), f, x.want)
			middle := low.inner()[0]
			_, e = surface.InsertU(wide, rat(between(low.first(), middle, big.NewRat(1, 2))))
			_, f = surface.InsertV(tall, rat(between(low.first(), middle, big.NewRat(1, 2))))
			expectError(t, "InsertU into few knots", e, api.OK)
			expectError(t, "InsertV into few knots", f, api.OK)
		}
	}
}

// There may be as many poles as api.MaxPoles says in each direction, and not more.
func TestOperationsToMostPoles(t *testing.T) {
	s := source(6)
	for degree := 1; degree <= api.MaxDegree; degree++ {
		low := side{1, exact("0 0 1 1")}
		for n := api.MaxPoles - 2; n <= api.MaxPoles; n++ {
			d := sideOf(degree, n)
			for i, x := range []api.Surface{s.surface(d, low, s.simple), s.surface(low, d, s.simple)} {
				e := expectOperation(t, operations(big.NewRat(1, 9), big.NewRat(1, 9))[i], x)
				expectError(t, "an insertion to the most poles", e, map[bool]api.Errno{true: api.OK, false: api.ErrSize}[n < api.MaxPoles])
			}
		}
		// With n inner knots there are degree + 1 + n poles, and then degree + 2 + 2 n.
		most := (api.MaxPoles - degree - 2) / 2
		for n := most; n <= most+1; n++ {
			d := sideOf(degree, degree+1+n)
			for i, x := range []api.Surface{s.surface(d, low, s.simple), s.surface(low, d, s.simple)} {
				want := map[bool]api.Errno{true: api.OK, false: api.ErrSize}[n == most]
				if degree == api.MaxDegree {
					want = api.ErrRange
				}
				e := expectOperation(t, operations(new(big.Rat), new(big.Rat))[2+i], x)
				expectError(t, "an elevation to the most poles", e, want)
			}
		}
	}
}

// From the degrees 1 on, up to the greatest ones.
func TestElevateOften(t *testing.T) {
	s := source(7)
	u, v := s.side(1, 1, exact("-1 0 2")), s.side(1, 1, exact("0 1/3"))
	first := s.surface(u, v, s.simple)
	x := first
	for degree := 2; degree <= api.MaxDegree; degree++ {
		up, e := surface.ElevateU(x)
		both, f := surface.ElevateV(up)
		expectError(t, "ElevateU", e, api.OK)
		expectError(t, "ElevateV", f, api.OK)
		u, v = u.elevated(), v.elevated()
		expectSurface(t, "ElevateU and ElevateV", both, u, v, first)
		other, _ := surface.ElevateV(x)
		other, _ = surface.ElevateU(other)
		expectText(t, "ElevateV and ElevateU", showSurface(other), showSurface(both))
		x = both
	}
	_, e := surface.ElevateU(x)
	_, f := surface.ElevateV(x)
	expectError(t, "ElevateU above the greatest degree", e, api.ErrRange)
	expectError(t, "ElevateV above the greatest degree", f, api.ErrRange)
}
