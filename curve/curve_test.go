package curve_test

import (
	"math/big"
	"slices"
	"testing"

	"brepkernel/api"
	"brepkernel/curve"
	"brepkernel/rational"
)

// P10.1

func TestCheckOfValidCurves(t *testing.T) {
	for _, c := range append(curves(), quarter(), wave()) {
		expectError(t, "Check of "+showCurve(c), curve.Check(c), api.OK)
	}
}

// wrongNumbers returns some numbers that are not valid.
func wrongNumbers() []api.Rat {
	return []api.Rat{
		{Neg: true}, {Num: []uint32{0}}, {Num: []uint32{5, 0, 0}}, {Den: []uint32{0}}, {Num: []uint32{1}, Den: []uint32{0}},
		{Num: []uint32{1}, Den: []uint32{0, 0, 0, 0}}, {Neg: true, Num: []uint32{0, 0, 0}, Den: []uint32{0, 0, 0}},
		{Num: []uint32{1}, Den: []uint32{1}}, {Den: []uint32{7}}, {Num: []uint32{6}, Den: []uint32{4}}, {Num: []uint32{0, 0, 6}, Den: []uint32{0, 4, 0}},
		{Num: []uint32{1, 2, 3, 0}, Den: []uint32{0, 0, 0, 0, 0}}, {Num: []uint32{0, 0, 0, 0, 0, 1, 0}, Den: []uint32{0, 0, 1, 0}},
	}
}

// numbersOf returns pointers to all numbers of a curve.
func numbersOf(c api.Curve) []*api.Rat {
	var out []*api.Rat
	for i := range c.Knots {
		out = append(out, &c.Knots[i])
	}
	for i := range c.Poles {
		p := &c.Poles[i]
		out = append(out, &p.P[0], &p.P[1], &p.P[2], &p.W)
	}
	return out
}

func TestCheckOfWrongNumbers(t *testing.T) {
	for i := range numbersOf(wave()) {
		for _, r := range wrongNumbers() {
			c := wave()
			*numbersOf(c)[i] = r
			expectError(t, "Check with a wrong number", curve.Check(c), api.ErrArg)
		}
	}
}

// fault makes a curve wrong.
type fault struct {
	with func(c *api.Curve)
	want api.Errno
}

// faults returns some, in the order in which Check finds them.
func faults() []fault {
	longBits := func(text string) api.Rat {
		return rational.Add(num(text), rat(new(big.Rat).SetInt(new(big.Int).Lsh(big.NewInt(1), api.MaxBits))))
	}
	return []fault{
		{func(c *api.Curve) { c.Poles[len(c.Poles)-1].W = api.Rat{Num: []uint32{2}, Den: []uint32{2}} }, api.ErrArg},
		{func(c *api.Curve) { c.Knots[1].Neg, c.Knots[1].Num = true, nil }, api.ErrArg},
		{func(c *api.Curve) { c.Degree = 7 }, api.ErrArg},
		{func(c *api.Curve) { c.Degree = 0 }, api.ErrArg},
		{func(c *api.Curve) { c.Degree = -3 }, api.ErrArg},
		{func(c *api.Curve) { c.Knots = c.Knots[:5] }, api.ErrKnots},
		{func(c *api.Curve) { c.Knots = nil }, api.ErrKnots},
		{func(c *api.Curve) { c.Knots = append(c.Knots, slices.Repeat(list("3"), 40)...) }, api.ErrSize},
		{func(c *api.Curve) { c.Knots[3] = num("4") }, api.ErrKnots},
		{func(c *api.Curve) { c.Knots = append(c.Knots, num("3")) }, api.ErrKnots},
		{func(c *api.Curve) { c.Poles = c.Poles[:3] }, api.ErrArg},
		{func(c *api.Curve) { c.Poles = append(c.Poles, c.Poles[0]) }, api.ErrArg},
		{func(c *api.Curve) { c.Poles[0].W = num("-1") }, api.ErrWeight},
		{func(c *api.Curve) { c.Poles[2].W = api.Rat{} }, api.ErrWeight},
		{func(c *api.Curve) { c.Poles[0].P[0] = longBits("0") }, api.ErrSize},
	}
}

// The first error decides, whatever else is wrong.
func TestCheckOrder(t *testing.T) {
	s := source(3)
	all := faults()
	for i, first := range all {
		for range 30 {
			c := wave()
			for _, later := range slices.Backward(all[i+1:]) {
				if s.below(4) == 0 && len(c.Knots) > 5 && len(c.Poles) > 3 {
					later.with(&c)
				}
			}
			if len(c.Knots) < 6 || len(c.Poles) < 4 {
				c = wave()
			}
			first.with(&c)
			expectError(t, "Check of "+showCurve(c), curve.Check(c), first.want)
		}
	}
}

// The limit is api.MaxBits, for numerators and denominators of all numbers.
func TestCheckOfLongNumbers(t *testing.T) {
	power := func(bits int) *big.Rat {
		return new(big.Rat).SetInt(new(big.Int).Lsh(big.NewInt(1), uint(bits)))
	}
	set := func(c api.Curve, i int, r *big.Rat) api.Curve {
		*numbersOf(c)[i] = rat(r)
		return c
	}
	one := big.NewRat(1, 1)
	for i := range numbersOf(wave()) {
		for bits, want := range map[int]api.Errno{api.MaxBits - 1: api.OK, api.MaxBits: api.ErrSize, api.MaxBits + 5: api.ErrSize} {
			if i >= len(wave().Knots) {
				expectError(t, "Check with a long numerator", curve.Check(set(wave(), i, power(bits))), want)
				expectError(t, "Check with a long denominator", curve.Check(set(wave(), i, quotient(one, power(bits)))), want)
			}
		}
	}
	for bits, want := range map[int]api.Errno{api.MaxBits - 1: api.OK, api.MaxBits: api.ErrSize} {
		c := wave()
		end := rat(power(bits))
		copy(c.Knots[4:], []api.Rat{end, end, end})
		expectError(t, "Check with a long knot", curve.Check(c), want)
		expectError(t, "Check with a long denominator of a knot", curve.Check(set(wave(), 3, quotient(one, power(bits)))), want)
	}
	expectError(t, "Check of a number of all bits", curve.Check(set(wave(), 7, minus(power(api.MaxBits), one))), api.OK)
}

func TestSame(t *testing.T) {
	all := append(curves(), wave(), quarter(), api.Curve{}, api.Curve{Degree: 2})
	for i := range numbersOf(wave()) {
		for _, r := range append(wrongNumbers(), num("77"), num("-3/8")) {
			c := wave()
			*numbersOf(c)[i] = r
			all = append(all, c)
		}
	}
	changes := []func(c *api.Curve){
		func(c *api.Curve) { c.Degree = 3 }, func(c *api.Curve) { c.Knots = c.Knots[1:] }, func(c *api.Curve) { c.Knots = nil }, func(c *api.Curve) { c.Poles = nil },
		func(c *api.Curve) { c.Poles = c.Poles[1:] }, func(c *api.Curve) { c.Knots = append(c.Knots, num("3")) }, func(c *api.Curve) { c.Poles = append(c.Poles, c.Poles[3]) },
		func(c *api.Curve) { slices.Reverse(c.Poles) }, func(c *api.Curve) { slices.Reverse(c.Knots) },
	}
	for _, change := range changes {
		c := wave()
		change(&c)
		all = append(all, c)
	}
	for i, c := range all {
		for j, d := range all {
			if got := curve.Same(c, copyOf(d)); got != (i == j) {
				t.Fatalf("Same of %d (%v) and %d (%v) is %v", i, c, j, d, got)
			}
		}
	}
}

// R2: a nil slice and an empty one are equivalent.
func TestSameOfEmptyLists(t *testing.T) {
	c, d := wave(), wave()
	for _, r := range numbersOf(d) {
		r.Num, r.Den = append([]uint32{}, r.Num...), append([]uint32{}, r.Den...)
	}
	if !curve.Same(c, d) || !curve.Same(d, c) || !curve.Same(api.Curve{}, api.Curve{Knots: []api.Rat{}, Poles: []api.Pole{}}) {
		t.Errorf("Same of empty lists")
	}
}

func TestDomainAndEnds(t *testing.T) {
	for _, c := range curves() {
		d := curve.Domain(c)
		expectText(t, "Domain of "+showCurve(c), show(d.Lo, d.Hi), show(c.Knots[0], c.Knots[len(c.Knots)-1]))
		a, b := curve.Ends(c)
		expectText(t, "the first end of "+showCurve(c), showPoint(a), showPoint(c.Poles[0].P))
		expectText(t, "the last end of "+showCurve(c), showPoint(b), showPoint(c.Poles[len(c.Poles)-1].P))
	}
	d := curve.Domain(wave())
	a, b := curve.Ends(wave())
	expectText(t, "Domain and Ends", show(d.Lo, d.Hi)+", "+showPoint(a)+", "+showPoint(b), "0 3, 0 0 0, 4 0 1/2")
}

// P10.2

func TestEvalOfExamples(t *testing.T) {
	for _, c := range []struct {
		c      api.Curve
		values map[string]string
	}{
		{quarter(), map[string]string{"0": "1 0 0", "1/2": "3/5 4/5 0", "1": "0 1 0", "1/3": "4/5 3/5 0", "2/3": "5/13 12/13 0"}},
		{curveOf(1, "2 2 4 4", "0 1 2 1; 4 -3 2 1"), map[string]string{"2": "0 1 2", "3": "2 -1 2", "5/2": "1 0 2", "4": "4 -3 2"}},
		{curveOf(1, "0 0 1 1", "0 0 0 1; 4 8 0 3"), map[string]string{"1/2": "3 6 0", "1/4": "2 4 0"}},
		{curveOf(1, "0 0 1 3 3", "0 0 0 1; 1 1 0 2; 1 5 0 2"), map[string]string{"0": "0 0 0", "1": "1 1 0", "2": "1 3 0", "3": "1 5 0", "1/2": "2/3 2/3 0"}},
		{curveOf(2, "0 0 0 1 1 2 2 2", "0 0 0 1; 1 0 0 1; 1 1 0 1; 1 2 0 1; 2 2 0 1"), map[string]string{"1/2": "3/4 1/4 0", "1": "1 1 0", "3/2": "5/4 7/4 0"}},
	} {
		for x, want := range c.values {
			got, e := curve.Eval(c.c, num(x))
			expectText(t, "Eval of "+showCurve(c.c)+" at "+x, showPoint(got), want)
			expectError(t, "Eval", e, api.OK)
		}
	}
}

func TestEval(t *testing.T) {
	for _, c := range curves() {
		m, bounds := modelOf(c), boundsOf(c)
		for _, x := range m.parameters() {
			got, e := curve.Eval(c, rat(x))
			what := "Eval of " + showCurve(c) + " at " + x.RatString()
			expectText(t, what, showPoint(got), showPoint(m.point(x)))
			expectError(t, what, e, api.OK)
			for _, b := range bounds {
				if d := distance(b.n, got); d.Cmp(b.low) < 0 || d.Cmp(b.high) > 0 {
					t.Fatalf("%s is not in the hull", what)
				}
			}
		}
		begin, _ := curve.Eval(c, rat(m.first()))
		end, _ := curve.Eval(c, rat(m.last()))
		a, b := curve.Ends(c)
		expectText(t, "the ends of "+showCurve(c), showPoint(begin)+", "+showPoint(end), showPoint(a)+", "+showPoint(b))
	}
}

// bound is two parallel planes between which all poles lie.
type bound struct {
	n         []*big.Rat
	low, high *big.Rat
}

// boundsOf returns some of a curve.
func boundsOf(c api.Curve) []bound {
	var out []bound
	for _, text := range []string{"1 0 0", "0 1 0", "0 0 1", "1 1 0", "1 -2 3"} {
		n := exact(text)
		var all []*big.Rat
		for _, p := range c.Poles {
			all = append(all, distance(n, p.P))
		}
		out = append(out, bound{n, slices.MinFunc(all, (*big.Rat).Cmp), slices.MaxFunc(all, (*big.Rat).Cmp)})
	}
	return out
}

// distance returns n . p.
func distance(n []*big.Rat, p api.Point) *big.Rat {
	sum := new(big.Rat)
	for i, x := range n {
		sum.Add(sum, times(x, value(p[i])))
	}
	return sum
}

func TestEvalOutOfRange(t *testing.T) {
	for _, c := range append(curves(), quarter()) {
		for _, x := range modelOf(c).outside() {
			got, e := curve.Eval(c, rat(x))
			expectText(t, "Eval at "+x.RatString(), showPoint(got), "0 0 0")
			expectError(t, "Eval of "+showCurve(c)+" at "+x.RatString(), e, api.ErrRange)
		}
	}
}

// copyOf returns a curve with memory of its own.
func copyOf(c api.Curve) api.Curve {
	c.Knots, c.Poles = slices.Clone(c.Knots), slices.Clone(c.Poles)
	for _, r := range numbersOf(c) {
		r.Num, r.Den = slices.Clone(r.Num), slices.Clone(r.Den)
	}
	return c
}
