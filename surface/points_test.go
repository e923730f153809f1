package surface_test

import (
	"math/big"
	"testing"

	"brepkernel/api"
	"brepkernel/curve"
	"brepkernel/surface"
)

// P12.2

func TestEvalOfExamples(t *testing.T) {
	cylinder := surfaceOf(2, 1, "0 0 0 1 1 1", "0 0 5 5", "1 0 0 1; 1 0 5 1 | 1 1 0 1; 1 1 5 1 | 0 1 0 2; 0 1 5 2")
	for _, x := range []struct {
		s          api.Surface
		u, v, want string
	}{
		{saddle(), "1/2", "1/2", "1/2 1/2 1/4"}, {saddle(), "0", "1", "0 1 0"}, {saddle(), "1", "0", "1 0 0"}, {saddle(), "1", "1", "1 1 1"}, {saddle(), "1/3", "3/4", "1/3 3/4 1/4"},
		{cylinder, "1/2", "0", "3/5 4/5 0"}, {cylinder, "1/2", "5/2", "3/5 4/5 5/2"}, {cylinder, "1/3", "5", "4/5 3/5 5"}, {cylinder, "1", "1", "0 1 1"},
		{surfaceOf(1, 1, "0 0 1 1", "2 2 4 4", "0 0 0 1; 4 0 0 3 | 0 8 0 1; 4 8 0 3"), "1/2", "3", "3 4 0"},
		{surfaceOf(1, 1, "0 0 1 3 3", "0 0 1 1", "0 0 0 1; 0 0 6 1 | 1 0 0 1; 1 0 6 1 | 1 4 0 1; 1 4 6 1"), "2", "1/3", "1 2 2"},
		{hill(), "0", "0", "0 0 0"}, {hill(), "3", "2", "4 3 1/2"}, {hill(), "0", "3/2", "0 5/3 1/3"}, {hill(), "3", "1/2", "4 1/2 0"},
	} {
		got, e := surface.Eval(x.s, num(x.u), num(x.v))
		expectText(t, "Eval of "+showSurface(x.s)+" at "+x.u+", "+x.v, showPoint(got), x.want)
		expectError(t, "Eval", e, api.OK)
	}
}

func TestEval(t *testing.T) {
	for _, s := range append(surfaces(), fullSurfaces()...) {
		m := modelOf(s)
		for _, u := range few(m.u.parameters()) {
			for _, v := range few(m.v.parameters()) {
				got, e := surface.Eval(s, rat(u), rat(v))
				what := "Eval of " + showSurface(s) + " at " + u.RatString() + ", " + v.RatString()
				expectText(t, what, showPoint(got), showPoint(m.point(u, v)))
				expectError(t, what, e, api.OK)
			}
		}
		corner, _ := surface.Eval(s, rat(m.u.last()), rat(m.v.first()))
		expectText(t, "a corner of "+showSurface(s), showPoint(corner), showPoint(s.Poles[len(s.Poles)-1][0].P))
	}
}

// few returns at most 8 numbers of a list, from all parts of it.
func few(list []*big.Rat) []*big.Rat {
	var out []*big.Rat
	for i := 0; i < len(list); i += 1 + len(list)/8 {
		out = append(out, list[i])
	}
	return out
}

func TestEvalOutOfRange(t *testing.T) {
	for _, s := range surfaces() {
		m := modelOf(s)
		outsideU, outsideV := m.u.outside(), m.v.outside()
		for i, u := range outsideU {
			inU, inV := rat(m.u.parameters()[i%3]), rat(m.v.parameters()[i%3])
			for _, at := range [][2]api.Rat{{rat(u), inV}, {inU, rat(outsideV[i])}, {rat(u), rat(outsideV[i])}} {
				got, e := surface.Eval(s, at[0], at[1])
				expectText(t, "Eval outside", showPoint(got), "0 0 0")
				expectError(t, "Eval of "+showSurface(s)+" at "+show(at[:]...), e, api.ErrRange)
			}
		}
	}
}

func TestIsoOfExamples(t *testing.T) {
	for _, x := range []struct {
		s              api.Surface
		u, v           string
		curveU, curveV string
	}{
		{saddle(), "0", "0", "1: 0 0 1 1: 0 0 0 1; 0 1 0 1", "1: 0 0 1 1: 0 0 0 1; 1 0 0 1"},
		{saddle(), "1/2", "1/3", "1: 0 0 1 1: 1/2 0 0 1; 1/2 1 1/2 1", "1: 0 0 1 1: 0 1/3 0 1; 1 1/3 1/3 1"},
		{saddle(), "1", "1", "1: 0 0 1 1: 1 0 0 1; 1 1 1 1", "1: 0 0 1 1: 0 1 0 1; 1 1 1 1"},
		{hill(), "0", "0", "1: 0 0 1 2 2: 0 0 0 1; 0 1 0 2; 0 3 1 1", "2: 0 0 0 1 3 3 3: 0 0 0 1; 1 0 1 1; 2 0 1 3; 4 0 0 1"},
		{hill(), "3", "1", "1: 0 0 1 2 2: 4 0 0 1; 4 1 0 1; 4 3 1/2 5", "2: 0 0 0 1 3 3 3: 0 1 0 2; 1 1 4 1/3; 2 1 -5 1; 4 1 0 1"},
		{hill(), "1", "3/2", "1: 0 0 1 2 2: 8/5 0 1 5/3; 8/5 1 -7/5 5/9; 6/5 3 1 5/3", "2: 0 0 0 1 3 3 3: 0 5/3 1/3 3/2; 1 19/7 10/7 7/6; 2 2 -2 1; 4 8/3 5/12 3"},
	} {
		a, e := surface.IsoU(x.s, num(x.u))
		b, f := surface.IsoV(x.s, num(x.v))
		expectText(t, "IsoU at "+x.u, showCurve(a), x.curveU)
		expectText(t, "IsoV at "+x.v, showCurve(b), x.curveV)
		expectError(t, "IsoU", e, api.OK)
		expectError(t, "IsoV", f, api.OK)
	}
}

// curveAlong returns the curve with this u: its homogeneous functions have the values of
// those of the columns as coefficients.
func curveAlong(m model, u *big.Rat) api.Curve {
	out := api.Curve{Degree: m.v.degree, Knots: rats(m.v.k)}
	for _, q := range m.along(m.u.interval(u), u) {
		out.Poles = append(out.Poles, q.pole())
	}
	return out
}

func TestIso(t *testing.T) {
	for _, s := range append(surfaces(), fullSurfaces()...) {
		m := modelOf(s)
		turned := m.turned()
		for _, u := range few(m.u.parameters()) {
			got, e := surface.IsoU(s, rat(u))
			expectError(t, "IsoU", e, api.OK)
			expectText(t, "IsoU of "+showSurface(s)+" at "+u.RatString(), showCurve(got), showCurve(curveAlong(m, u)))
		}
		for _, v := range few(m.v.parameters()) {
			got, e := surface.IsoV(s, rat(v))
			expectError(t, "IsoV", e, api.OK)
			expectText(t, "IsoV of "+showSurface(s)+" at "+v.RatString(), showCurve(got), showCurve(curveAlong(turned, v)))
		}
	}
}

// The chapter's consequence: iso-curves run through the points of Eval.
func TestIsoRunsThroughPoints(t *testing.T) {
	for _, s := range surfaces() {
		m := modelOf(s)
		for _, u := range few(m.u.parameters()) {
			for _, v := range few(m.v.parameters())[:3] {
				point, _ := surface.Eval(s, rat(u), rat(v))
				a, _ := surface.IsoU(s, rat(u))
				b, _ := surface.IsoV(s, rat(v))
				p, e := curve.Eval(a, rat(v))
				q, f := curve.Eval(b, rat(u))
				expectText(t, "points of iso-curves of "+showSurface(s), showPoint(p)+", "+showPoint(q), showPoint(point)+", "+showPoint(point))
				expectError(t, "curve.Check", curve.Check(a), api.OK)
				expectError(t, "curve.Eval", max(e, f), api.OK)
			}
		}
	}
}

func TestIsoOutOfRange(t *testing.T) {
	for _, s := range surfaces() {
		m := modelOf(s)
		for _, u := range m.u.outside() {
			got, e := surface.IsoU(s, rat(u))
			expectError(t, "IsoU of "+showSurface(s)+" at "+u.RatString(), e, api.ErrRange)
			expectText(t, "IsoU outside", showCurve(got), showCurve(api.Curve{}))
		}
		for _, v := range m.v.outside() {
			got, e := surface.IsoV(s, rat(v))
			expectError(t, "IsoV of "+showSurface(s)+" at "+v.RatString(), e, api.ErrRange)
			expectText(t, "IsoV outside", showCurve(got), showCurve(api.Curve{}))
		}
	}
}
