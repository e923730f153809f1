package surface_test

import (
	"math/big"
	"slices"
	"testing"

	"brepkernel/api"
	"brepkernel/surface"
	"brepkernel/vector"
)

// P12.5

func TestChangesOfExamples(t *testing.T) {
	s := surfaceOf(2, 1, "0 0 0 1 3 3 3", "1 1 2 5 5", "0 0 0 1; 0 1 0 2; 0 2 0 3 | 1 0 0 1; 1 1 0 2; 1 2 0 3 | 2 0 0 1; 2 1 0 2; 2 2 0 3 | 3 0 0 1/4; 3 1 0 2; 3 2 9 5")
	turn := api.Map{M: [3]api.Point{pt("0 1 0"), pt("1 0 0"), pt("0 0 2")}, T: pt("0 0 1")}
	for _, x := range []struct {
		name, want string
		got        api.Surface
	}{
		{"Swap", "1 2: 1 1 2 5 5: 0 0 0 1 3 3 3: 0 0 0 1; 1 0 0 1; 2 0 0 1; 3 0 0 1/4 | 0 1 0 2; 1 1 0 2; 2 1 0 2; 3 1 0 2 | 0 2 0 3; 1 2 0 3; 2 2 0 3; 3 2 9 5", surface.Swap(s)},
		{"MirrorU", "2 1: 0 0 0 2 3 3 3: 1 1 2 5 5: 3 0 0 1/4; 3 1 0 2; 3 2 9 5 | 2 0 0 1; 2 1 0 2; 2 2 0 3 | 1 0 0 1; 1 1 0 2; 1 2 0 3 | 0 0 0 1; 0 1 0 2; 0 2 0 3", surface.MirrorU(s)},
		{"MirrorV", "2 1: 0 0 0 1 3 3 3: 1 1 4 5 5: 0 2 0 3; 0 1 0 2; 0 0 0 1 | 1 2 0 3; 1 1 0 2; 1 0 0 1 | 2 2 0 3; 2 1 0 2; 2 0 0 1 | 3 2 9 5; 3 1 0 2; 3 0 0 1/4", surface.MirrorV(s)},
		{"Move", "2 1: 0 0 0 1 3 3 3: 1 1 2 5 5: 0 0 1 1; 1 0 1 2; 2 0 1 3 | 0 1 1 1; 1 1 1 2; 2 1 1 3 | 0 2 1 1; 1 2 1 2; 2 2 1 3 | 0 3 1 1/4; 1 3 1 2; 2 3 19 5", surface.Move(s, turn)},
	} {
		expectText(t, x.name, showSurface(x.got), x.want)
	}
}

// mirrored returns the sum of the ends less each knot, in the opposite order.
func (d side) mirrored() side {
	sum := plus(d.first(), d.last())
	out := side{degree: d.degree}
	for _, x := range slices.Backward(d.k) {
		out.k = append(out.k, minus(sum, x))
	}
	return out
}

func TestMirrors(t *testing.T) {
	for _, s := range surfaces() {
		m := modelOf(s)
		u, v := copyOf(s), copyOf(s)
		u.KnotsU, v.KnotsV = rats(m.u.mirrored().k), rats(m.v.mirrored().k)
		slices.Reverse(u.Poles)
		for _, row := range v.Poles {
			slices.Reverse(row)
		}
		expectText(t, "MirrorU of "+showSurface(s), showSurface(surface.MirrorU(s)), showSurface(u))
		expectText(t, "MirrorV of "+showSurface(s), showSurface(surface.MirrorV(s)), showSurface(v))
		expectText(t, "MirrorU twice", showSurface(surface.MirrorU(u)), showSurface(s))
		expectText(t, "MirrorV twice", showSurface(surface.MirrorV(v)), showSurface(s))
		x, y := between(m.u.first(), m.u.last(), big.NewRat(3, 7)), between(m.v.first(), m.v.last(), big.NewRat(1, 5))
		point := showPoint(m.point(x, y))
		p, _ := surface.Eval(surface.MirrorU(s), rat(minus(plus(m.u.first(), m.u.last()), x)), rat(y))
		q, _ := surface.Eval(surface.MirrorV(s), rat(x), rat(minus(plus(m.v.first(), m.v.last()), y)))
		expectText(t, "points of mirrored surfaces", showPoint(p)+", "+showPoint(q), point+", "+point)
	}
}

func TestSwap(t *testing.T) {
	for _, s := range append(surfaces(), fullSurfaces()...) {
		m := modelOf(s)
		want := api.Surface{U: s.V, V: s.U, KnotsU: s.KnotsV, KnotsV: s.KnotsU}
		for j := range s.Poles[0] {
			var row []api.Pole
			for i := range s.Poles {
				row = append(row, s.Poles[i][j])
			}
			want.Poles = append(want.Poles, row)
		}
		got := surface.Swap(s)
		expectText(t, "Swap of "+showSurface(s), showSurface(got), showSurface(want))
		expectText(t, "Swap twice", showSurface(surface.Swap(got)), showSurface(s))
		x, y := between(m.u.first(), m.u.last(), big.NewRat(3, 7)), between(m.v.first(), m.v.last(), big.NewRat(1, 5))
		p, _ := surface.Eval(got, rat(y), rat(x))
		expectText(t, "a point of Swap", showPoint(p), showPoint(m.point(x, y)))
	}
}

// affine returns a map, sometimes a flat one.
func (s *source) affine() api.Map {
	point := func() api.Point { return api.Point{rat(s.number()), rat(s.number()), rat(s.number())} }
	m := api.Map{M: [3]api.Point{point(), point(), point()}, T: point()}
	if s.below(5) == 0 {
		m.M[2] = m.M[1]
	}
	return m
}

func TestMove(t *testing.T) {
	s := source(11)
	for _, x := range surfaces() {
		m := s.affine()
		want := copyOf(x)
		for i, row := range x.Poles {
			for j, p := range row {
				for n := range 3 {
					sum := value(m.T[n])
					for k := range 3 {
						sum = plus(sum, times(value(m.M[n][k]), value(p.P[k])))
					}
					want.Poles[i][j].P[n] = rat(sum)
				}
			}
		}
		expectText(t, "Move of "+showSurface(x), showSurface(surface.Move(x, m)), showSurface(want))
	}
}

// changes returns the functions that return surfaces, with arguments for a surface.
func (s *source) changes(x api.Surface) map[string]func(x api.Surface) []api.Surface {
	m := modelOf(x)
	pick := func(d side) api.Rat {
		all := d.parameters()
		return rat(all[s.below(len(all))])
	}
	u, v := pick(m.u), pick(m.v)
	a, b := s.spans(m.u, 2)[1], s.spans(m.v, 2)[1]
	one := func(s api.Surface, _ api.Errno) []api.Surface { return []api.Surface{s} }
	return map[string]func(x api.Surface) []api.Surface{
		"InsertU":  func(x api.Surface) []api.Surface { return one(surface.InsertU(x, u)) },
		"InsertV":  func(x api.Surface) []api.Surface { return one(surface.InsertV(x, v)) },
		"ElevateU": func(x api.Surface) []api.Surface { return one(surface.ElevateU(x)) },
		"ElevateV": func(x api.Surface) []api.Surface { return one(surface.ElevateV(x)) },
		"Cut": func(x api.Surface) []api.Surface {
			return one(surface.Cut(x, spanOf(a[0], a[1]), spanOf(b[0], b[1])))
		},
		"Swap":    func(x api.Surface) []api.Surface { return one(surface.Swap(x), api.OK) },
		"MirrorU": func(x api.Surface) []api.Surface { return one(surface.MirrorU(x), api.OK) },
		"MirrorV": func(x api.Surface) []api.Surface { return one(surface.MirrorV(x), api.OK) },
		"Patches": surface.Patches,
	}
}

// The chapter's consequence: Move changes points, and what else is done none. So both
// can be done in either order.
func TestMoveCommutes(t *testing.T) {
	s := source(12)
	for _, x := range surfaces() {
		m := s.affine()
		moved := surface.Move(x, m)
		u, v := modelOf(x).u.parameters()[1], modelOf(x).v.parameters()[1]
		p, _ := surface.Eval(x, rat(u), rat(v))
		q, _ := surface.Eval(moved, rat(u), rat(v))
		expectText(t, "Eval of Move", showPoint(q), showPoint(vector.Apply(m, p)))
		for name, f := range s.changes(x) {
			want, got := f(x), f(moved)
			for i := range want {
				want[i] = surface.Move(want[i], m)
			}
			if !slices.EqualFunc(got, want, surface.Same) {
				t.Fatalf("%s and Move of %s", name, showSurface(x))
			}
		}
	}
}

// What is done in one direction is the same that is done in the other one to the
// surface with its directions exchanged.
func TestDirectionsAreEqual(t *testing.T) {
	s := source(13)
	for _, x := range surfaces() {
		m, turned := modelOf(x), surface.Swap(x)
		u := rat(m.u.parameters()[s.below(3)])
		inserted, e := surface.InsertU(x, u)
		other, f := surface.InsertV(turned, u)
		expectError(t, "InsertV", f, e)
		elevated, _ := surface.ElevateU(x)
		otherElevated, _ := surface.ElevateV(turned)
		line, _ := surface.IsoU(x, u)
		otherLine, _ := surface.IsoV(turned, u)
		expectText(t, "IsoV", showCurve(otherLine), showCurve(line))
		for _, pair := range [][2]api.Surface{{inserted, other}, {elevated, otherElevated}, {surface.MirrorU(x), surface.MirrorV(turned)}} {
			expectText(t, "the other direction of "+showSurface(x), showSurface(surface.Swap(pair[1])), showSurface(pair[0]))
		}
	}
}
