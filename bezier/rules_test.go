package bezier_test

import (
	"cmp"
	"fmt"
	"math"
	"reflect"
	"slices"
	"testing"

	"brepkernel/api"
	"brepkernel/bezier"
	"brepkernel/curve"
	"brepkernel/rational"
	"brepkernel/span"
)

// arguments are those that the functions of the layer take.
type arguments struct {
	C       api.Curve
	T, A, B api.Rat
	D       api.Point
}

// result is what a function of the layer returns. What it does not return is zero.
type result struct {
	curve   api.Curve
	lists   [4]api.Poly
	numbers []api.Rat
	answer  int
	e       api.Errno
}

// call is a function of the layer.
type call struct {
	name string
	of   func(x arguments) result
}

func calls() []call {
	point := func(p api.Point, e api.Errno) result { return result{numbers: p[:], e: e} }
	box := func(b api.Box) result {
		return result{numbers: []api.Rat{b[0].Lo, b[0].Hi, b[1].Lo, b[1].Hi, b[2].Lo, b[2].Hi}}
	}
	part := func(c api.Curve, e api.Errno) result { return result{curve: c, e: e} }
	return []call{
		{"Check", func(x arguments) result { return result{e: bezier.Check(x.C)} }},
		{"Numerators", func(x arguments) result { return result{lists: bezier.Numerators(x.C)} }},
		{"Cut", func(x arguments) result { return part(bezier.Cut(x.C, x.A, x.B)) }},
		{"Cut in the other order", func(x arguments) result { return part(bezier.Cut(x.C, x.B, x.A)) }},
		{"Cut to the whole domain", func(x arguments) result {
			d := curve.Domain(x.C)
			return part(bezier.Cut(x.C, d.Lo, d.Hi))
		}},
		{"Cut to the first half", func(x arguments) result {
			half, _ := span.Halves(curve.Domain(x.C))
			return part(bezier.Cut(x.C, half.Lo, half.Hi))
		}},
		{"Box", func(x arguments) result { return box(bezier.Box(x.C)) }},
		{"Tangent", func(x arguments) result { return point(bezier.Tangent(x.C, x.T)) }},
		{"Tangent at the end", func(x arguments) result { return point(bezier.Tangent(x.C, curve.Domain(x.C).Hi)) }},
		{"Speed", func(x arguments) result { return box(bezier.Speed(x.C)) }},
		{"Chord", func(x arguments) result { return result{numbers: []api.Rat{bezier.Chord(x.C)}} }},
		{"Advance", func(x arguments) result { return result{answer: bezier.Advance(x.C, x.D)} }},
	}
}

// roomy returns a number with limbs behind it that are not its.
func roomy(r api.Rat) api.Rat {
	room := func(a []uint32) []uint32 { return append(slices.Clone(a), 11, 22, 33)[:len(a)] }
	return api.Rat{Neg: r.Neg, Num: room(r.Num), Den: room(r.Den)}
}

// roomyCurve returns a curve with memory of its own, and with knots and poles behind its
// own ones.
func roomyCurve(c api.Curve) api.Curve {
	out := api.Curve{
		Degree: c.Degree,
		Knots:  slices.Concat(c.Knots, list("77 -7/9")),
		Poles:  slices.Concat(c.Poles, quarter().Poles),
	}
	for _, r := range numbersOf(out) {
		*r = roomy(*r)
	}
	out.Knots, out.Poles = out.Knots[:len(c.Knots)], out.Poles[:len(c.Poles)]
	return out
}

// argumentsOf returns arguments with memory of their own.
func argumentsOf(c api.Curve, next func() api.Rat) arguments {
	return arguments{
		C: roomyCurve(c), T: roomy(next()), A: roomy(next()), B: roomy(next()),
		D: api.Point{roomy(next()), roomy(next()), roomy(next())},
	}
}

// validArguments returns those for which the functions are promised. Parameters may be
// out of range.
func validArguments() []arguments {
	s := source(21)
	var out []arguments
	for i, c := range curves() {
		parameters := modelOf(c).parameters()
		out = append(out, argumentsOf(c, func() api.Rat { return rat(parameters[s.below(len(parameters))]) }))
		if i%4 == 0 {
			out = append(out, argumentsOf(c, func() api.Rat { return rat(s.number()) }))
		}
	}
	return out
}

// misfits returns curves whose degree, knots and poles are not those of a Bezier curve.
func misfits() []api.Curve {
	out := []api.Curve{
		{}, {Degree: 1}, {Degree: 3, Knots: list("0 1")}, {Degree: 1, Poles: quarter().Poles}, {Degree: 1, Knots: []api.Rat{}, Poles: []api.Pole{}},
		{Knots: list("0 1"), Poles: quarter().Poles[:1]}, overUnit("0 0 0 1; 1 0 0 1; 1 1 0 1; 2 1 0 1; 3 0 0 1; 4 0 0 1; 5 0 0 1; 6 0 0 1"),
	}
	for _, degree := range []int{-1, 0, 1, 3, 5, api.MaxDegree + 1, 100, math.MaxInt, math.MaxInt / 2, math.MinInt, math.MinInt + 1} {
		c := quarter()
		c.Degree = degree
		out = append(out, c)
	}
	changes := []func(c *api.Curve){
		func(c *api.Curve) { c.Knots = c.Knots[1:] }, func(c *api.Curve) { c.Knots = nil }, func(c *api.Curve) { c.Knots = c.Knots[:4] },
		func(c *api.Curve) { c.Knots = append(c.Knots, num("1")) }, func(c *api.Curve) { c.Poles = c.Poles[1:] }, func(c *api.Curve) { c.Poles = nil },
		func(c *api.Curve) { c.Poles = append(c.Poles, c.Poles[1]) },
	}
	for _, change := range changes {
		c := quarter()
		change(&c)
		out = append(out, c)
	}
	return slices.Concat(out, splines())
}

// wrongNumbered returns curves whose parts fit together, with numbers that are not
// valid, knots that are not in order, and weights that are not positive.
func wrongNumbered() []api.Curve {
	s := source(22)
	var out []api.Curve
	for degree := 1; degree <= api.MaxDegree; degree++ {
		for _, r := range slices.Concat(wrongNumbers(), list("0 -1 -7/3 1e90")) {
			for n := range 6 {
				c := s.bezierOf(degree, s.simple)
				all := numbersOf(c)
				for range n {
					*all[s.below(len(all))] = r
				}
				if n == 0 {
					c.Knots[0], c.Poles[degree].W = r, r
				}
				out = append(out, c)
			}
		}
		c, zero := s.bezierOf(degree, s.simple), s.bezierOf(degree, s.simple)
		slices.Reverse(c.Knots)
		for i := range zero.Poles {
			zero.Poles[i].W = api.Rat{}
		}
		out = append(out, c, zero)
	}
	return out
}

// invalidArguments returns those with curves that are no Bezier curves, and those with
// other numbers that are not valid.
func invalidArguments() []arguments {
	s := source(23)
	wrong := append(wrongNumbers(), api.Rat{})
	some := func() api.Rat {
		if s.below(3) > 0 {
			return rat(s.number())
		}
		return wrong[s.below(len(wrong))]
	}
	var out []arguments
	for _, c := range slices.Concat(misfits(), wrongNumbered()) {
		out = append(out, argumentsOf(c, some))
	}
	for _, r := range wrong {
		for _, c := range curves()[:12] {
			out = append(out, argumentsOf(c, func() api.Rat { return r }), argumentsOf(c, some))
		}
	}
	return out
}

// region is the memory of a list, from its first element to its capacity.
type region struct{ from, to uintptr }

func regionOf[T any](list []T) region {
	from := reflect.ValueOf(list).Pointer()
	return region{from, from + uintptr(cap(list))*reflect.TypeFor[T]().Size()}
}

// limbRegions returns those of the limbs of numbers.
func limbRegions(numbers []api.Rat) []region {
	var out []region
	for _, r := range numbers {
		out = append(out, regionOf(r.Num), regionOf(r.Den))
	}
	return out
}

// regionsOfCurve returns those of a curve.
func regionsOfCurve(c api.Curve) []region {
	out := []region{regionOf(c.Knots), regionOf(c.Poles)}
	for _, r := range numbersOf(c) {
		out = append(out, limbRegions([]api.Rat{*r})...)
	}
	return out
}

// regions returns those of a result.
func (r result) regions() []region {
	out := append(regionsOfCurve(r.curve), limbRegions(r.numbers)...)
	for _, l := range r.lists {
		out = append(append(out, regionOf(l)), limbRegions(l)...)
	}
	return out
}

// all returns pointers to the numbers of a result.
func (r result) all() []*api.Rat {
	out := numbersOf(r.curve)
	for _, l := range append([]api.Poly{r.numbers}, r.lists[:]...) {
		for i := range l {
			out = append(out, &l[i])
		}
	}
	return out
}

// shared reports whether two of the regions have common memory.
func shared(all []region) bool {
	all = slices.DeleteFunc(all, func(r region) bool { return r.from == r.to })
	slices.SortFunc(all, func(a, b region) int { return cmp.Compare(a.from, b.from) })
	for i := 1; i < len(all); i++ {
		if all[i].from < all[i-1].to {
			return true
		}
	}
	return false
}

// numbersIn returns the numbers of arguments that are not those of curves.
func numbersIn(x arguments) []api.Rat {
	return append([]api.Rat{x.T, x.A, x.B}, x.D[:]...)
}

// snapshot returns all of the arguments, with what lies behind their lists.
func snapshot(x arguments) string {
	text := fmt.Sprint(x)
	numbers := numbersIn(x)
	x.C.Knots, x.C.Poles = x.C.Knots[:cap(x.C.Knots)], x.C.Poles[:cap(x.C.Poles)]
	for _, r := range numbersOf(x.C) {
		numbers = append(numbers, *r)
	}
	for _, r := range numbers {
		text += fmt.Sprint(r, r.Num[:cap(r.Num)], r.Den[:cap(r.Den)])
	}
	return text
}

// R1, R2: no function panics, modifies or retains its arguments, or returns lists that
// share memory, whether or not the arguments are valid.
func TestArgumentsStay(t *testing.T) {
	for _, x := range append(validArguments(), invalidArguments()...) {
		before := snapshot(x)
		given := append(regionsOfCurve(x.C), limbRegions(numbersIn(x))...)
		for _, c := range calls() {
			if shared(append(c.of(x).regions(), given...)) {
				t.Fatalf("%s: the result shares memory with arguments or with itself: %v", c.name, x)
			}
		}
		if snapshot(x) != before {
			t.Fatalf("a function modifies its arguments %v", x)
		}
	}
}

// R1: no function looks behind the end of a list.
func TestListsWithoutRoom(t *testing.T) {
	for _, x := range append(validArguments(), invalidArguments()...) {
		x.C.Knots, x.C.Poles = slices.Clip(x.C.Knots), slices.Clip(x.C.Poles)
		for _, c := range calls() {
			c.of(x)
		}
	}
}

// Where degree, knots and poles do not fit together, nothing is computed for which they
// are needed.
func TestMisfits(t *testing.T) {
	for _, c := range misfits() {
		x := arguments{C: c, T: num("1/2"), A: num("1/3"), B: num("2/3"), D: pt("1 2 3")}
		for _, f := range calls() {
			out := f.of(x)
			switch f.name {
			case "Cut", "Tangent":
				expectError(t, f.name+" of "+showCurve(c), out.e, api.ErrArg)
			case "Speed":
				expectText(t, "Speed of "+showCurve(c), show(out.numbers...), "0 0 0 0 0 0")
			case "Advance":
				if out.answer != api.Open {
					t.Errorf("Advance of %s = %d", showCurve(c), out.answer)
				}
			}
			if out.e != api.OK {
				expectZero(t, f.name, out)
			}
		}
	}
}

// expectZero looks whether what is returned with an error is zero.
func expectZero(t *testing.T, what string, out result) {
	t.Helper()
	expectNothing(t, what, out.curve)
	for _, r := range out.all() {
		if r.Neg || len(r.Num) > 0 || len(r.Den) > 0 {
			t.Fatalf("%s: %v with error %d", what, *r, out.e)
		}
	}
}

// R1: long lists do not take long.
func TestLongLists(t *testing.T) {
	var c api.Curve
	for i := range 100000 {
		c.Knots = append(c.Knots, rational.Int(int64(i)))
		c.Poles = append(c.Poles, api.Pole{P: api.Point{c.Knots[i]}, W: num("1")})
	}
	for _, degree := range []int{1, api.MaxDegree, 49999, 99999, math.MaxInt} {
		c.Degree = degree
		for _, f := range calls() {
			f.of(arguments{C: c, T: num("50000"), A: num("1"), B: num("2"), D: pt("1 2 3")})
		}
	}
}

// R2, R3: what is done to a result changes no later one.
func TestResultsAreNew(t *testing.T) {
	for _, x := range validArguments() {
		for _, c := range calls() {
			first := c.of(x)
			before := fmt.Sprint(first)
			for _, r := range first.all() {
				clear(r.Num[:cap(r.Num)])
				clear(r.Den[:cap(r.Den)])
				*r = api.Rat{Neg: true}
			}
			expectText(t, c.name, fmt.Sprint(c.of(x)), before)
		}
	}
}

// R2: a nil list and an empty one are equivalent.
func TestEmptyLists(t *testing.T) {
	with := func(x arguments, f func(list []uint32) []uint32) arguments {
		x.C = copyOf(x.C)
		all := append(numbersOf(x.C), &x.T, &x.A, &x.B, &x.D[0], &x.D[1], &x.D[2])
		for i, r := range all {
			if i%2 == 0 {
				r.Num, r.Den = f(r.Num), f(r.Den)
			}
		}
		return x
	}
	filled := func(list []uint32) []uint32 { return append([]uint32{}, list...) }
	bare := func(list []uint32) []uint32 { return append([]uint32(nil), list...) }
	for _, x := range validArguments() {
		for _, c := range calls() {
			expectText(t, c.name+" with empty lists", fmt.Sprint(c.of(with(x, filled))), fmt.Sprint(c.of(with(x, bare))))
		}
	}
	for _, c := range calls() {
		none := arguments{C: api.Curve{Degree: 1}}
		empty := arguments{C: api.Curve{Degree: 1, Knots: []api.Rat{}, Poles: []api.Pole{}}}
		expectText(t, c.name+" of empty lists", fmt.Sprint(c.of(empty)), fmt.Sprint(c.of(none)))
	}
}

// R4, R6: numbers in results are valid, and there are none with an error.
func TestResultsAreValid(t *testing.T) {
	for _, x := range validArguments() {
		for _, c := range calls() {
			out := c.of(x)
			for _, r := range out.all() {
				if !rational.Valid(*r) {
					t.Fatalf("%s: %v", c.name, *r)
				}
			}
			if out.e != api.OK {
				expectZero(t, c.name, out)
			} else if len(out.curve.Poles) > 0 {
				expectError(t, c.name+": Check of the result", bezier.Check(out.curve), api.OK)
			}
		}
	}
}
