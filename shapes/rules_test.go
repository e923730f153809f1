package shapes_test

import (
	"cmp"
	"fmt"
	"math"
	"reflect"
	"slices"
	"testing"

	"brepkernel/api"
	"brepkernel/curve"
	"brepkernel/rational"
	"brepkernel/shapes"
	"brepkernel/surface"
)

// arguments are those that the functions of the layer take.
type arguments struct {
	P    [4]api.Point
	L    []api.Point
	C, D api.Curve
	R    api.Rat
	N    int
}

// result is what a function of the layer returns. What it does not return is zero.
type result struct {
	curve   api.Curve
	surface api.Surface
	m       api.Map
	e       api.Errno
}

// call is a function of the layer.
type call struct {
	name string
	of   func(x arguments) result
}

func calls() []call {
	line := func(c api.Curve, e api.Errno) result { return result{curve: c, e: e} }
	area := func(s api.Surface, e api.Errno) result { return result{surface: s, e: e} }
	return []call{
		{"Line", func(x arguments) result { return line(shapes.Line(x.P[0], x.P[1]), api.OK) }},
		{"Line of one point", func(x arguments) result { return line(shapes.Line(x.P[0], x.P[0]), api.OK) }},
		{"Polyline", func(x arguments) result { return line(shapes.Polyline(x.L)) }},
		{"Polyline of one point", func(x arguments) result { return line(shapes.Polyline(slices.Repeat(x.P[:1], 5))) }},
		{"Quarter", func(arguments) result { return line(shapes.Quarter(), api.OK) }},
		{"Circle", func(x arguments) result { return line(shapes.Circle(x.P[0], x.R)) }},
		{"Circle around the origin", func(x arguments) result { return line(shapes.Circle(api.Point{}, x.R)) }},
		{"Circle with the radius 1", func(x arguments) result { return line(shapes.Circle(x.P[0], num("1"))) }},
		{"Bilinear", func(x arguments) result { return area(shapes.Bilinear(x.P[0], x.P[1], x.P[2], x.P[3]), api.OK) }},
		{"Bilinear of one point", func(x arguments) result { return area(shapes.Bilinear(x.P[0], x.P[0], x.P[0], x.P[0]), api.OK) }},
		{"Ruled", func(x arguments) result { return area(shapes.Ruled(x.C, x.D)) }},
		{"Ruled of one curve", func(x arguments) result { return area(shapes.Ruled(x.C, x.C)) }},
		{"Extrude", func(x arguments) result { return area(shapes.Extrude(x.C, x.P[0]), api.OK) }},
		{"Extrude by nothing", func(x arguments) result { return area(shapes.Extrude(x.C, api.Point{}), api.OK) }},
		{"Revolve", func(x arguments) result { return area(shapes.Revolve(x.C, x.N)) }},
		{"Revolve by four quarters", func(x arguments) result { return area(shapes.Revolve(x.C, 4)) }},
		{"Rotation", func(x arguments) result { return result{m: shapes.Rotation(x.R)} }},
	}
}

// numbersOf returns pointers to the numbers of a list of knots and of rows of poles.
func numbersOf(knots []api.Rat, rows ...[]api.Pole) []*api.Rat {
	var out []*api.Rat
	for i := range knots {
		out = append(out, &knots[i])
	}
	for _, row := range rows {
		for j := range row {
			p := &row[j]
			out = append(out, &p.P[0], &p.P[1], &p.P[2], &p.W)
		}
	}
	return out
}

// ofPoint returns pointers to the coordinates of a point.
func ofPoint(p *api.Point) []*api.Rat { return []*api.Rat{&p[0], &p[1], &p[2]} }

// all returns pointers to the numbers of a result.
func (r *result) all() []*api.Rat {
	out := slices.Concat(numbersOf(r.curve.Knots, r.curve.Poles), numbersOf(r.surface.KnotsU, r.surface.Poles...), numbersOf(r.surface.KnotsV), ofPoint(&r.m.T))
	for i := range r.m.M {
		out = append(out, ofPoint(&r.m.M[i])...)
	}
	return out
}

// all returns pointers to the numbers of arguments.
func (x *arguments) all() []*api.Rat {
	out := append(slices.Concat(numbersOf(x.C.Knots, x.C.Poles), numbersOf(x.D.Knots, x.D.Poles)), &x.R)
	for i := range x.P {
		out = append(out, ofPoint(&x.P[i])...)
	}
	for i := range x.L {
		out = append(out, ofPoint(&x.L[i])...)
	}
	return out
}

// roomy returns a number with limbs behind it that are not its.
func roomy(r api.Rat) api.Rat {
	room := func(a []uint32) []uint32 { return append(slices.Clone(a), 11, 22, 33)[:len(a)] }
	return api.Rat{Neg: r.Neg, Num: room(r.Num), Den: room(r.Den)}
}

func roomyPoint(p api.Point) api.Point { return api.Point{roomy(p[0]), roomy(p[1]), roomy(p[2])} }

// behind returns a list with elements behind it that are not its.
func behind[T any](list []T, more ...T) []T {
	return slices.Concat(list, more)[:len(list)]
}

// argumentsOf returns arguments with memory of their own.
func argumentsOf(c, d api.Curve, points int, quarters int, next func() api.Rat) arguments {
	point := func() api.Point { return api.Point{next(), next(), next()} }
	x := arguments{C: c, D: d, R: next(), N: quarters}
	for i := range x.P {
		x.P[i] = point()
	}
	for range points {
		x.L = append(x.L, point())
	}
	x.L = behind(x.L, pt("7 8 9"), pt("-7 -8 -9"))
	for _, c := range []*api.Curve{&x.C, &x.D} {
		c.Knots, c.Poles = behind(c.Knots, list("55 66")...), behind(c.Poles, quarter().Poles...)
	}
	for _, r := range x.all() {
		*r = roomy(*r)
	}
	return x
}

// validArguments returns those for which the functions are promised. Numbers may be out
// of range.
func validArguments() []arguments {
	s := source(21)
	var out []arguments
	all := curves()
	for i, c := range all {
		d := s.withKnots(c.Degree, c.Knots)
		if i%5 == 0 {
			d = all[len(all)-1-i]
		}
		next := func() api.Rat { return rat(s.number()) }
		points := []int{2, 3, 7, api.MaxPoles, api.MaxPoles + 1, 1, 0}[i%7]
		out = append(out, argumentsOf(c, d, points, s.below(7)-1, next))
		x := argumentsOf(d, c, 5, 1+s.below(4), next)
		x.R.Neg, x.P[1], x.L[3] = false, roomyPoint(x.P[0]), roomyPoint(x.L[0])
		out = append(out, x)
	}
	return out
}

// wrongNumbers returns some numbers that are not valid.
func wrongNumbers() []api.Rat {
	return []api.Rat{
		{Neg: true}, {Num: []uint32{0}}, {Num: []uint32{5, 0, 0}}, {Den: []uint32{0}}, {Num: []uint32{1}, Den: []uint32{0}},
		{Num: []uint32{1}, Den: []uint32{0, 0, 0, 0}}, {Neg: true, Num: []uint32{0, 0, 0}, Den: []uint32{0, 0, 0}},
		{Num: []uint32{1}, Den: []uint32{1}}, {Den: []uint32{7}}, {Num: []uint32{6}, Den: []uint32{4}}, {Num: []uint32{0, 0, 6}, Den: []uint32{0, 4, 0}},
		{Num: []uint32{1, 2, 3, 0}, Den: []uint32{0, 0, 0, 0, 0}}, {Num: []uint32{0, 0, 0, 0, 0, 1, 0}, Den: []uint32{0, 0, 1, 0}},
	}
}

// wrongCurves returns some whose degree, knots and poles do not fit together, and some
// with numbers that are not valid.
func wrongCurves() []api.Curve {
	s := source(22)
	out := []api.Curve{
		{}, {Degree: 1}, {Degree: 3, Knots: list("0 1")}, {Degree: 1, Poles: quarter().Poles}, {Degree: 1, Knots: []api.Rat{}, Poles: []api.Pole{}},
		{Degree: 2, Knots: quarter().Knots, Poles: quarter().Poles[:2]}, {Degree: 2, Knots: quarter().Knots, Poles: slices.Repeat(quarter().Poles, 20)},
		{Degree: 2, Knots: list("1 0 1 0 1 0"), Poles: quarter().Poles},
	}
	for _, degree := range []int{-1, 0, 1, 7, math.MaxInt, math.MinInt} {
		c := quarter()
		c.Degree = degree
		out = append(out, c)
	}
	for _, r := range append(wrongNumbers(), list("0 -1 1e90")...) {
		for n := range 5 {
			c := wave()
			all := numbersOf(c.Knots, c.Poles)
			for range n + 1 {
				*all[s.below(len(all))] = r
			}
			out = append(out, c)
		}
		c := wave()
		for _, x := range numbersOf(c.Knots, c.Poles) {
			*x = r
		}
		out = append(out, c)
	}
	return out
}

// invalidArguments returns those with curves or numbers that are not valid.
func invalidArguments() []arguments {
	s := source(23)
	wrong := append(wrongNumbers(), api.Rat{})
	some := func() api.Rat {
		if s.below(3) > 0 {
			return rat(s.number())
		}
		return wrong[s.below(len(wrong))]
	}
	var out []arguments
	all := wrongCurves()
	for i, c := range all {
		out = append(out, argumentsOf(c, all[len(all)-1-i], s.below(6), s.below(7)-1, some), argumentsOf(c, c, 3, 2, some))
	}
	for _, r := range wrong {
		same := func() api.Rat { return r }
		for _, c := range curves() {
			out = append(out, argumentsOf(c, c, 4, 3, same), argumentsOf(c, quarter(), 4, 3, some))
		}
	}
	return out
}

// region is the memory of a list, from its first element to its capacity.
type region struct{ from, to uintptr }

func regionOf[T any](list []T) region {
	from := reflect.ValueOf(list).Pointer()
	return region{from, from + uintptr(cap(list))*reflect.TypeFor[T]().Size()}
}

// limbsOf returns the regions of the limbs of numbers.
func limbsOf(numbers []*api.Rat) []region {
	var out []region
	for _, r := range numbers {
		out = append(out, regionOf(r.Num), regionOf(r.Den))
	}
	return out
}

// regions returns those of a result.
func (r *result) regions() []region {
	s := r.surface
	out := append(limbsOf(r.all()), regionOf(r.curve.Knots), regionOf(r.curve.Poles), regionOf(s.KnotsU), regionOf(s.KnotsV), regionOf(s.Poles))
	for _, row := range s.Poles {
		out = append(out, regionOf(row))
	}
	return out
}

// regions returns those of arguments.
func (x *arguments) regions() []region {
	return append(limbsOf(x.all()), regionOf(x.L), regionOf(x.C.Knots), regionOf(x.C.Poles), regionOf(x.D.Knots), regionOf(x.D.Poles))
}

// shared reports whether two of the regions have common memory.
func shared(all []region) bool {
	all = slices.DeleteFunc(all, func(r region) bool { return r.from == r.to })
	slices.SortFunc(all, func(a, b region) int { return cmp.Compare(a.from, b.from) })
	for i := 1; i < len(all); i++ {
		if all[i].from < all[i-1].to {
			return true
		}
	}
	return false
}

// snapshot returns all of the arguments, with what lies behind their lists.
func snapshot(x arguments) []int {
	out := []int{x.N, x.C.Degree, x.D.Degree, len(x.L), len(x.C.Knots), len(x.C.Poles), len(x.D.Knots), len(x.D.Poles)}
	x.L = x.L[:cap(x.L)]
	for _, c := range []*api.Curve{&x.C, &x.D} {
		c.Knots, c.Poles = c.Knots[:cap(c.Knots)], c.Poles[:cap(c.Poles)]
	}
	for _, r := range x.all() {
		if r.Neg {
			out = append(out, -1)
		}
		for _, limbs := range [2][]uint32{r.Num, r.Den} {
			out = append(out, len(limbs), int(regionOf(limbs).from))
			for _, limb := range limbs[:cap(limbs)] {
				out = append(out, int(limb))
			}
		}
	}
	return out
}

// R1, R2: no function panics, modifies or retains its arguments, or returns lists that
// share memory, whether or not the arguments are valid.
func TestArgumentsStay(t *testing.T) {
	for _, x := range append(validArguments(), invalidArguments()...) {
		before := snapshot(x)
		for _, c := range calls() {
			out := c.of(x)
			if shared(append(out.regions(), x.regions()...)) {
				t.Fatalf("%s: the result shares memory with arguments or with itself: %v", c.name, x)
			}
		}
		if !slices.Equal(snapshot(x), before) {
			t.Fatalf("a function modifies its arguments %v", x)
		}
	}
}

// R1: no function looks behind the end of a list.
func TestListsWithoutRoom(t *testing.T) {
	for _, x := range append(validArguments(), invalidArguments()...) {
		x.L = slices.Clip(x.L)
		for _, c := range []*api.Curve{&x.C, &x.D} {
			c.Knots, c.Poles = slices.Clip(c.Knots), slices.Clip(c.Poles)
		}
		for _, c := range calls() {
			c.of(x)
		}
	}
}

// R1: long lists do not take long.
func TestLongLists(t *testing.T) {
	x := arguments{N: 4, R: num("1/2"), L: make([]api.Point, 20000)}
	x.C.Degree = 1
	for i := range 20000 {
		x.C.Knots = append(x.C.Knots, rational.Int(int64(i)))
		x.C.Poles = append(x.C.Poles, api.Pole{P: api.Point{x.C.Knots[i]}, W: num("1")})
	}
	x.D = x.C
	for _, c := range calls() {
		c.of(x)
	}
}

// R2, R3: what is done to a result changes no later one.
func TestResultsAreNew(t *testing.T) {
	for _, x := range validArguments() {
		for _, c := range calls() {
			first := c.of(x)
			before := fmt.Sprint(first)
			for _, r := range first.all() {
				clear(r.Num[:cap(r.Num)])
				clear(r.Den[:cap(r.Den)])
				*r = api.Rat{Neg: true}
			}
			expectText(t, c.name, fmt.Sprint(c.of(x)), before)
		}
	}
}

// R2: a nil list and an empty one are equivalent.
func TestEmptyLists(t *testing.T) {
	with := func(x arguments, f func(list []uint32) []uint32) arguments {
		x.L = slices.Clone(x.L)
		for _, c := range []*api.Curve{&x.C, &x.D} {
			c.Knots, c.Poles = slices.Clone(c.Knots), slices.Clone(c.Poles)
		}
		// Neighbours differ, so that equal ones are compared.
		for i, r := range x.all() {
			if i%2 == 0 {
				r.Num, r.Den = f(r.Num), f(r.Den)
			}
		}
		return x
	}
	filled := func(list []uint32) []uint32 { return append([]uint32{}, list...) }
	bare := func(list []uint32) []uint32 { return append([]uint32(nil), list...) }
	for _, x := range validArguments() {
		for _, c := range calls() {
			expectText(t, c.name+" with empty lists", fmt.Sprint(c.of(with(x, filled))), fmt.Sprint(c.of(with(x, bare))))
		}
	}
	for _, c := range calls() {
		empty := arguments{L: []api.Point{}, C: api.Curve{Knots: []api.Rat{}, Poles: []api.Pole{}}}
		expectText(t, c.name+" of empty lists", fmt.Sprint(c.of(empty)), fmt.Sprint(c.of(arguments{})))
	}
}

// R4, R6: curves and surfaces in results are valid, and there are none with an error.
func TestResultsAreValid(t *testing.T) {
	seen := map[api.Errno]bool{}
	for _, x := range validArguments() {
		for _, c := range calls() {
			out := c.of(x)
			seen[out.e] = true
			expectValid(t, c.name, out.all())
			if out.e != api.OK {
				expectNoCurve(t, c.name, out.curve)
				expectNoSurface(t, c.name, out.surface)
				continue
			}
			if out.curve.Degree > 0 {
				expectError(t, "curve.Check of "+c.name, curve.Check(out.curve), api.OK)
			}
			if out.surface.U > 0 {
				expectError(t, "surface.Check of "+c.name, surface.Check(out.surface), api.OK)
			}
		}
	}
	for _, e := range []api.Errno{api.OK, api.ErrArg, api.ErrSize, api.ErrKnots, api.ErrRange} {
		if !seen[e] {
			t.Errorf("no arguments with error %d", e)
		}
	}
}
