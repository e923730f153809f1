package curve_test

import (
	"math/big"
	"slices"
	"testing"

	"brepkernel/api"
	"brepkernel/curve"
	"brepkernel/vector"
)

// P10.6

func TestChangesOfExamples(t *testing.T) {
	c := curveOf(2, "0 0 0 1 3 3 3", "0 0 0 1; 1 2 0 1; 3 -1 1 2; 4 0 1/2 1/3")
	expectText(t, "Mirror", showCurve(curve.Mirror(c)), "2: 0 0 0 2 3 3 3: 4 0 1/2 1/3; 3 -1 1 2; 1 2 0 1; 0 0 0 1")
	got, e := curve.Affine(c, num("10"), num("16"))
	expectText(t, "Affine", showCurve(got), "2: 10 10 10 12 16 16 16: 0 0 0 1; 1 2 0 1; 3 -1 1 2; 4 0 1/2 1/3")
	expectError(t, "Affine", e, api.OK)
	turn := api.Map{M: [3]api.Point{pt("0 -1 0"), pt("1 0 0"), pt("0 0 2")}, T: pt("5 0 1")}
	expectText(t, "Move", showCurve(curve.Move(c, turn)), "2: 0 0 0 1 3 3 3: 5 0 1 1; 3 1 1 1; 6 3 3 2; 5 4 2 1/3")
	got, e = curve.Join(curveOf(1, "0 0 1 3 3", "0 0 0 1; 1 1 0 2; 1 5 0 4"), curveOf(1, "1 1 3/2 5 5", "1 5 0 3; 2 5 0 1; 2 6 0 9"))
	expectText(t, "Join", showCurve(got), "1: 0 0 1 3 7/2 7 7: 0 0 0 1; 1 1 0 2; 1 5 0 4; 2 5 0 4/3; 2 6 0 12")
	expectError(t, "Join", e, api.OK)
}

func TestMirror(t *testing.T) {
	for _, c := range curves() {
		m := modelOf(c)
		got := curve.Mirror(c)
		var k []*big.Rat
		sum := plus(m.first(), m.last())
		for _, x := range slices.Backward(m.k) {
			k = append(k, minus(sum, x))
		}
		want := copyOf(c)
		want.Knots = rats(k)
		slices.Reverse(want.Poles)
		expectText(t, "Mirror of "+showCurve(c), showCurve(got), showCurve(want))
		expectText(t, "Mirror twice", showCurve(curve.Mirror(got)), showCurve(c))
		x := between(m.first(), m.last(), big.NewRat(3, 7))
		point, _ := curve.Eval(got, rat(minus(sum, x)))
		expectText(t, "a point of Mirror of "+showCurve(c), showPoint(point), showPoint(m.point(x)))
	}
}

func TestAffine(t *testing.T) {
	s := source(7)
	for _, c := range curves() {
		m := modelOf(c)
		a, b := s.number(), s.number()
		got, e := curve.Affine(c, rat(a), rat(b))
		if a.Cmp(b) >= 0 {
			expectError(t, "Affine", e, api.ErrRange)
			expectNothing(t, "Affine", got)
			a, b = b, plus(a, big.NewRat(1, 9))
			got, e = curve.Affine(c, rat(a), rat(b))
		}
		expectError(t, "Affine", e, api.OK)
		want := copyOf(c)
		to := func(x *big.Rat) *big.Rat {
			return between(a, b, quotient(minus(x, m.first()), minus(m.last(), m.first())))
		}
		for i, x := range m.k {
			want.Knots[i] = rat(to(x))
		}
		expectText(t, "Affine of "+showCurve(c), showCurve(got), showCurve(want))
		x := between(m.first(), m.last(), big.NewRat(2, 7))
		point, _ := curve.Eval(got, rat(to(x)))
		expectText(t, "a point of Affine of "+showCurve(c), showPoint(point), showPoint(m.point(x)))
	}
	for _, x := range []string{"0 0", "1 0", "-1 -1", "2/3 1/3"} {
		l := list(x)
		got, e := curve.Affine(quarter(), l[0], l[1])
		expectError(t, "Affine to "+x, e, api.ErrRange)
		expectNothing(t, "Affine to "+x, got)
	}
}

// affine returns a map, sometimes a flat one.
func (s *source) affine() api.Map {
	point := func() api.Point { return api.Point{rat(s.number()), rat(s.number()), rat(s.number())} }
	return api.Map{M: [3]api.Point{point(), point(), point()}, T: point()}
}

func TestMove(t *testing.T) {
	s := source(8)
	for _, c := range curves() {
		m := s.affine()
		want := copyOf(c)
		for i, p := range c.Poles {
			for j := range 3 {
				sum := value(m.T[j])
				for n := range 3 {
					sum = plus(sum, times(value(m.M[j][n]), value(p.P[n])))
				}
				want.Poles[i].P[j] = rat(sum)
			}
		}
		expectText(t, "Move of "+showCurve(c), showCurve(curve.Move(c, m)), showCurve(want))
	}
}

// The chapter's consequences.
func TestMoveCommutes(t *testing.T) {
	s := source(9)
	for _, c := range curves() {
		m := s.affine()
		moved := curve.Move(c, m)
		all := modelOf(c).parameters()
		x := rat(all[s.below(len(all))])
		p, _ := curve.Eval(c, x)
		q, _ := curve.Eval(moved, x)
		expectText(t, "Eval of Move", showPoint(q), showPoint(vector.Apply(m, p)))
		for name, f := range map[string]func(c api.Curve) []api.Curve{
			"Insert":  func(c api.Curve) []api.Curve { d, _ := curve.Insert(c, x); return []api.Curve{d} },
			"Refine":  func(c api.Curve) []api.Curve { d, _ := curve.Refine(c, []api.Rat{x}); return []api.Curve{d} },
			"Elevate": func(c api.Curve) []api.Curve { d, _ := curve.Elevate(c); return []api.Curve{d} },
			"Mirror":  func(c api.Curve) []api.Curve { return []api.Curve{curve.Mirror(c)} },
			"Affine":  func(c api.Curve) []api.Curve { d, _ := curve.Affine(c, x, num("1e9")); return []api.Curve{d} },
			"Join":    func(c api.Curve) []api.Curve { d, _ := curve.Join(c, curve.Mirror(c)); return []api.Curve{d} },
			"Split":   func(c api.Curve) []api.Curve { d, e, _ := curve.Split(c, x); return []api.Curve{d, e} },
			"Pieces":  curve.Pieces,
		} {
			want, got := f(c), f(moved)
			for i := range want {
				want[i] = curve.Move(want[i], m)
			}
			if !slices.EqualFunc(got, want, curve.Same) {
				t.Fatalf("%s and Move of %s", name, showCurve(c))
			}
		}
	}
}

// after returns a curve that begins at the end of c.
func after(c, d api.Curve) api.Curve {
	_, end := curve.Ends(c)
	begin, _ := curve.Ends(d)
	m := vector.Identity()
	m.T = vector.Sub(end, begin)
	return curve.Move(d, m)
}

// joinedKnots returns what P10.6 says.
func joinedKnots(c, d model) []*big.Rat {
	out := slices.Clone(c.k[:len(c.k)-1])
	for _, x := range d.k[d.degree+1:] {
		out = append(out, plus(x, minus(c.last(), d.first())))
	}
	return out
}

// expectJoin looks whether a curve is c, and then d with one factor and other
// parameters. The poles of c stay as they are.
func expectJoin(t *testing.T, what string, got, c, d api.Curve) {
	t.Helper()
	m, n := modelOf(c), modelOf(d)
	expectKnots(t, what, got, m.degree, joinedKnots(m, n))
	for i, p := range c.Poles {
		expectText(t, what+": a pole", show(got.Poles[i].P[0], got.Poles[i].P[1], got.Poles[i].P[2], got.Poles[i].W), show(p.P[0], p.P[1], p.P[2], p.W))
	}
	lower, upper, e := curve.Split(got, rat(m.last()))
	expectError(t, what, e, api.OK)
	one := big.NewRat(1, 1)
	expectSame(t, "the first part of "+what, lower, m, one, new(big.Rat))
	scale := quotient(value(c.Poles[len(c.Poles)-1].W), value(d.Poles[0].W))
	expectSame(t, "the second part of "+what, upper, n, scale, minus(m.last(), n.first()))
}

func TestJoin(t *testing.T) {
	all := curves()
	joined := 0
	for i, c := range all {
		for _, d := range slices.Concat(all[i:min(len(all), i+4)], all[max(0, i-3):i]) {
			d = after(c, d)
			got, e := curve.Join(c, d)
			what := "Join of " + showCurve(c) + " and " + showCurve(d)
			switch {
			case c.Degree != d.Degree:
				expectError(t, what, e, api.ErrArg)
			case len(c.Poles)+len(d.Poles) > api.MaxPoles+1:
				expectError(t, what, e, api.ErrSize)
			default:
				expectError(t, what, e, api.OK)
				expectJoin(t, what, got, c, d)
				joined++
				continue
			}
			expectNothing(t, what, got)
		}
	}
	if joined < 50 {
		t.Errorf("%d curves were joined", joined)
	}
}

// There may be as many poles as api.MaxPoles says, and not more.
func TestJoinToMostPoles(t *testing.T) {
	s := source(10)
	for degree := 1; degree <= api.MaxDegree; degree++ {
		withPoles := func(n int) api.Curve {
			all := evenly(n - degree + 1)
			return s.withKnots(degree, slices.Concat(repeat(all[0], degree), all, repeat(all[len(all)-1], degree)), s.simple)
		}
		for _, n := range []int{degree + 1, 12, 20, api.MaxPoles - degree} {
			c, exact, more := withPoles(n), withPoles(api.MaxPoles+1-n), withPoles(api.MaxPoles+2-n)
			got, e := curve.Join(c, after(c, exact))
			expectError(t, "Join to the most poles", e, api.OK)
			expectJoin(t, "Join to the most poles", got, c, after(c, exact))
			got, e = curve.Join(c, after(c, more))
			expectError(t, "Join to too many poles", e, api.ErrSize)
			expectNothing(t, "Join to too many poles", got)
		}
	}
}

// The degrees are looked at first, then the ends, and then the number of poles.
func TestJoinOrder(t *testing.T) {
	full := fullCurves()
	apart := curveOf(2, "0 0 0 1 1 1", "1 0 0 1; 2 0 0 1; 3 0 1/9 1")
	for _, c := range []struct {
		c, d api.Curve
		want api.Errno
	}{
		{full[0], full[2], api.ErrArg}, {full[2], full[0], api.ErrArg}, {quarter(), full[0], api.ErrArg}, {quarter(), after(quarter(), full[0]), api.ErrArg},
		{full[2], full[3], api.ErrRange}, {full[2], after(full[2], full[3]), api.ErrSize}, {quarter(), full[2], api.ErrRange}, {quarter(), after(quarter(), full[2]), api.ErrSize},
		{quarter(), quarter(), api.ErrRange}, {quarter(), apart, api.ErrRange}, {apart, apart, api.ErrRange}, {apart, after(apart, apart), api.OK}, {quarter(), curve.Mirror(quarter()), api.OK},
	} {
		got, e := curve.Join(c.c, c.d)
		expectError(t, "Join of "+showCurve(c.c)+" and "+showCurve(c.d), e, c.want)
		if e != api.OK {
			expectNothing(t, "Join", got)
		}
	}
	// Each coordinate counts.
	for i := range 3 {
		d := curve.Mirror(quarter())
		d.Poles[0].P[i] = num("1/7")
		_, e := curve.Join(quarter(), d)
		expectError(t, "Join of curves that are apart", e, api.ErrRange)
	}
}
