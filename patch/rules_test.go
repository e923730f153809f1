package patch_test

import (
	"cmp"
	"fmt"
	"math"
	"reflect"
	"slices"
	"testing"

	"brepkernel/api"
	"brepkernel/patch"
	"brepkernel/rational"
	"brepkernel/surface"
	"brepkernel/tensor"
)

// arguments are those that the functions of the layer take.
type arguments struct {
	S    api.Surface
	U, V api.Rat
}

// result is what a function of the layer returns. What it does not return is zero.
type result struct {
	nets    [4]api.Net
	numbers []api.Rat
	sides   [4]bool
	e       api.Errno
}

// call is a function of the layer.
type call struct {
	name string
	of   func(x arguments) result
}

func calls() []call {
	points := func(e api.Errno, points ...api.Point) result {
		return result{numbers: slices.Concat(each(points, func(p api.Point) []api.Rat { return p[:] })...), e: e}
	}
	boxes := func(boxes ...api.Box) result {
		var out result
		for _, b := range boxes {
			out.numbers = append(out.numbers, b[0].Lo, b[0].Hi, b[1].Lo, b[1].Hi, b[2].Lo, b[2].Hi)
		}
		return out
	}
	derivs := func(s api.Surface, u, v api.Rat) result {
		a, b, e := patch.Derivs(s, u, v)
		return points(e, a, b)
	}
	return []call{
		{"Check", func(x arguments) result { return result{e: patch.Check(x.S)} }},
		{"Numerators", func(x arguments) result { return result{nets: patch.Numerators(x.S)} }},
		{"Box", func(x arguments) result { return boxes(patch.Box(x.S)) }},
		{"Derivs", func(x arguments) result { return derivs(x.S, x.U, x.V) }},
		{"Derivs at a corner", func(x arguments) result {
			u, v := surface.Domain(x.S)
			return derivs(x.S, u.Hi, v.Lo)
		}},
		{"Normal", func(x arguments) result {
			n, e := patch.Normal(x.S, x.U, x.V)
			return points(e, n)
		}},
		{"Speeds", func(x arguments) result { return boxes(patch.Speeds(x.S)) }},
		{"Normals", func(x arguments) result { return boxes(patch.Normals(x.S)) }},
		{"Flat", func(x arguments) result {
			r, e := patch.Flat(x.S)
			return result{numbers: []api.Rat{r}, e: e}
		}},
		{"Sides", func(x arguments) result { return result{sides: patch.Sides(x.S)} }},
	}
}

// roomy returns a number with limbs behind it that are not its.
func roomy(r api.Rat) api.Rat {
	room := func(a []uint32) []uint32 { return append(slices.Clone(a), 11, 22, 33)[:len(a)] }
	return api.Rat{Neg: r.Neg, Num: room(r.Num), Den: room(r.Den)}
}

// roomySurface returns a surface with memory of its own, and with knots, poles and rows
// behind its own ones.
func roomySurface(s api.Surface) api.Surface {
	more := octant()
	out := api.Surface{U: s.U, V: s.V, KnotsU: slices.Concat(s.KnotsU, more.KnotsU), KnotsV: slices.Concat(s.KnotsV, more.KnotsV)}
	for _, row := range slices.Concat(s.Poles, more.Poles) {
		out.Poles = append(out.Poles, slices.Concat(row, more.Poles[0]))
	}
	for _, r := range numbersOf(out) {
		*r = roomy(*r)
	}
	out.KnotsU, out.KnotsV, out.Poles = out.KnotsU[:len(s.KnotsU)], out.KnotsV[:len(s.KnotsV)], out.Poles[:len(s.Poles)]
	for i, row := range s.Poles {
		out.Poles[i] = out.Poles[i][:len(row)]
	}
	return out
}

// clipped returns a surface without room behind its lists.
func clipped(s api.Surface) api.Surface {
	s.KnotsU, s.KnotsV, s.Poles = slices.Clip(s.KnotsU), slices.Clip(s.KnotsV), each(s.Poles, slices.Clip)
	return s
}

// validArguments returns those for which the functions are promised. Parameters may be
// out of range.
func validArguments() []arguments {
	s := source(21)
	var out []arguments
	for i, x := range patches() {
		m := modelOf(x)
		inside := func(d side) api.Rat { return roomy(rat(d.parameters()[s.below(6)])) }
		out = append(out, arguments{roomySurface(x), inside(m.u), inside(m.v)})
		if i%4 == 0 {
			out = append(out, arguments{roomySurface(x), roomy(rat(s.number())), roomy(rat(s.number()))})
		}
	}
	return out
}

// misfits returns surfaces whose degrees, knots and poles are not those of a patch.
func misfits() []api.Surface {
	unit := list("0 0 1 1")
	out := []api.Surface{
		{}, {U: 1, V: 1}, {U: 3, V: 2, KnotsU: list("0 1"), KnotsV: list("0 1")}, {U: 1, V: 1, Poles: octant().Poles},
		{U: 1, V: 1, KnotsU: []api.Rat{}, KnotsV: []api.Rat{}, Poles: [][]api.Pole{}}, {KnotsU: list("0 1"), KnotsV: list("0 1"), Poles: [][]api.Pole{octant().Poles[0][:1]}},
		{U: 1, V: 1, KnotsU: unit, KnotsV: unit, Poles: [][]api.Pole{nil, nil}}, {U: 1, V: 1, KnotsU: unit, KnotsV: unit, Poles: [][]api.Pole{{}, {}, {}}},
	}
	for _, degree := range []int{-1, 0, 1, 3, 5, api.MaxDegree + 1, 100, math.MaxInt, math.MaxInt / 2, math.MinInt, math.MinInt + 1} {
		u, v := octant(), octant()
		u.U, v.V = degree, degree
		out = append(out, u, v)
	}
	long := overUnit("0 0 0 1; 1 0 0 1 | 1 1 1 1; 2 0 0 1")
	for range api.MaxDegree {
		long.Poles = append(long.Poles, long.Poles[1])
	}
	long.U = len(long.Poles) - 1
	long = over(long, "0 1", "0 1")
	out = append(out, long, surface.Swap(long))
	for _, change := range []func(s *api.Surface){
		func(s *api.Surface) { s.KnotsU = s.KnotsU[1:] }, func(s *api.Surface) { s.KnotsV = s.KnotsV[1:] }, func(s *api.Surface) { s.KnotsU = nil }, func(s *api.Surface) { s.KnotsV = nil },
		func(s *api.Surface) { s.KnotsU = append(s.KnotsU, num("1")) }, func(s *api.Surface) { s.KnotsV = append(s.KnotsV, num("1")) },
		func(s *api.Surface) { s.Poles = s.Poles[1:] }, func(s *api.Surface) { s.Poles = nil }, func(s *api.Surface) { s.Poles = append(s.Poles, s.Poles[1]) },
		func(s *api.Surface) { s.Poles[0] = s.Poles[0][1:] }, func(s *api.Surface) { s.Poles[2] = s.Poles[2][:2] }, func(s *api.Surface) { s.Poles[1] = nil },
		func(s *api.Surface) { s.Poles[0] = append(s.Poles[0], s.Poles[1][0]) }, func(s *api.Surface) { s.Poles[2] = append(s.Poles[2], s.Poles[1][0]) },
		// As many poles as there should be, in other places.
		func(s *api.Surface) { s.Poles[0], s.Poles[1] = s.Poles[0][:2], append(s.Poles[1], s.Poles[0][2]) },
	} {
		s := octant()
		change(&s)
		out = append(out, s)
	}
	return slices.Concat(out, splines())
}

// wrongNumbered returns surfaces whose parts fit together, with numbers that are not
// valid, knots that are not in order, and weights that are not positive.
func wrongNumbered() []api.Surface {
	s := source(22)
	var out []api.Surface
	for degree := 1; degree <= api.MaxDegree; degree++ {
		next := func() api.Surface { return s.patchOf(degree, 1+s.below(3), s.simple) }
		for _, r := range slices.Concat(wrongNumbers(), list("0 -1 -7/3 1e90")) {
			for n := range 4 {
				x := next()
				all := numbersOf(x)
				for range n {
					*all[s.below(len(all))] = r
				}
				if n == 0 {
					x.KnotsU[0], x.KnotsV[x.V+1], x.Poles[degree][0].W = r, r, r
				}
				out = append(out, x)
			}
		}
		u, v, zero := next(), next(), next()
		slices.Reverse(u.KnotsU)
		slices.Reverse(v.KnotsV)
		for _, p := range polesOf(zero) {
			p.W = api.Rat{}
		}
		out = append(out, u, v, zero)
	}
	return out
}

// invalidArguments returns those with surfaces that are no patches, and those with other
// numbers that are not valid.
func invalidArguments() []arguments {
	s := source(23)
	wrong := append(wrongNumbers(), api.Rat{})
	some := func() api.Rat {
		if s.below(3) > 0 {
			return roomy(rat(s.number()))
		}
		return roomy(wrong[s.below(len(wrong))])
	}
	var out []arguments
	for _, x := range slices.Concat(misfits(), wrongNumbered()) {
		out = append(out, arguments{roomySurface(x), some(), some()})
	}
	for _, r := range wrong {
		for _, x := range patches()[:8] {
			out = append(out, arguments{roomySurface(x), roomy(r), some()}, arguments{roomySurface(x), some(), roomy(r)})
		}
	}
	return out
}

// region is the memory of a list, from its first element to its capacity.
type region struct{ from, to uintptr }

func regionOf[T any](list []T) region {
	from := reflect.ValueOf(list).Pointer()
	return region{from, from + uintptr(cap(list))*reflect.TypeFor[T]().Size()}
}

// regionsOf returns those of the limbs of numbers.
func regionsOf(numbers []*api.Rat) []region {
	var out []region
	for _, r := range numbers {
		out = append(out, regionOf(r.Num), regionOf(r.Den))
	}
	return out
}

// regions returns those of arguments.
func (x arguments) regions() []region {
	out := append(regionsOf(x.all()), regionOf(x.S.KnotsU), regionOf(x.S.KnotsV), regionOf(x.S.Poles))
	return append(out, each(x.S.Poles, regionOf)...)
}

// all returns pointers to the numbers of arguments. Those to U and V are to copies.
func (x arguments) all() []*api.Rat { return append(numbersOf(x.S), &x.U, &x.V) }

// regions returns those of a result.
func (r result) regions() []region {
	out := regionsOf(r.all())
	for _, n := range r.nets {
		out = append(out, regionOf(n.C))
	}
	return out
}

// all returns pointers to the numbers of a result.
func (r result) all() []*api.Rat {
	var out []*api.Rat
	for _, l := range [5][]api.Rat{r.numbers, r.nets[0].C, r.nets[1].C, r.nets[2].C, r.nets[3].C} {
		for i := range l {
			out = append(out, &l[i])
		}
	}
	return out
}

// shared reports whether two of the regions have common memory.
func shared(all []region) bool {
	all = slices.DeleteFunc(all, func(r region) bool { return r.from == r.to })
	slices.SortFunc(all, func(a, b region) int { return cmp.Compare(a.from, b.from) })
	for i := 1; i < len(all); i++ {
		if all[i].from < all[i-1].to {
			return true
		}
	}
	return false
}

// snapshot returns all of the arguments, with what lies behind their lists.
func snapshot(x arguments) string {
	text := fmt.Sprint(x, x.regions())
	s := x.S
	s.KnotsU, s.KnotsV, s.Poles = s.KnotsU[:cap(s.KnotsU)], s.KnotsV[:cap(s.KnotsV)], slices.Clone(s.Poles[:cap(s.Poles)])
	for i, row := range s.Poles {
		s.Poles[i] = row[:cap(row)]
	}
	for _, r := range (arguments{s, x.U, x.V}).all() {
		text += fmt.Sprint(r.Num[:cap(r.Num)], r.Den[:cap(r.Den)])
	}
	return text
}

// R1, R2: no function panics, modifies or retains its arguments, or returns lists that
// share memory, whether or not the arguments are valid.
func TestArgumentsStay(t *testing.T) {
	for _, x := range append(validArguments(), invalidArguments()...) {
		before := snapshot(x)
		given := x.regions()
		for _, c := range calls() {
			if shared(append(c.of(x).regions(), given...)) {
				t.Fatalf("%s: the result shares memory with arguments or with itself: %v", c.name, x)
			}
		}
		if snapshot(x) != before {
			t.Fatalf("a function modifies its arguments %v", x)
		}
	}
}

// R1: no function looks behind the end of a list.
func TestListsWithoutRoom(t *testing.T) {
	for _, x := range append(validArguments(), invalidArguments()...) {
		x.S = clipped(x.S)
		for _, c := range calls() {
			c.of(x)
		}
	}
}

// Rows that lie in the same memory are rows like others.
func TestRowsInOneList(t *testing.T) {
	s := octant()
	s.Poles[0], s.Poles[2] = s.Poles[1], s.Poles[1]
	x := arguments{s, num("1/2"), num("1/3")}
	for _, c := range calls() {
		got := c.of(x)
		expectText(t, c.name, fmt.Sprint(got), fmt.Sprint(c.of(arguments{copyOf(s), x.U, x.V})))
		if shared(got.regions()) {
			t.Fatalf("%s: the result shares memory with itself", c.name)
		}
	}
}

// expectZero looks whether a result is zero, but for its error.
func expectZero(t *testing.T, what string, out result) {
	t.Helper()
	for _, r := range out.all() {
		if r.Neg || len(r.Num) > 0 || len(r.Den) > 0 {
			t.Fatalf("%s: %v with error %d", what, *r, out.e)
		}
	}
	for _, n := range out.nets {
		if n.U != 0 || n.V != 0 || len(n.C) > 0 {
			t.Fatalf("%s: net %v", what, n)
		}
	}
	if out.sides != [4]bool{} {
		t.Fatalf("%s: sides %v", what, out.sides)
	}
}

// Where degrees, knots and poles are not those of a patch, nothing is computed for which
// they are needed.
func TestMisfits(t *testing.T) {
	for _, s := range misfits() {
		u, v := surface.Domain(s)
		for _, x := range []arguments{{s, num("1/2"), num("1/2")}, {s, u.Hi, v.Lo}} {
			for _, c := range calls() {
				if c.name == "Check" || c.name == "Box" {
					continue
				}
				out := c.of(x)
				expectZero(t, c.name+" of "+showSurface(s), out)
				switch c.name {
				case "Derivs", "Derivs at a corner", "Normal", "Flat":
					if out.e == api.OK {
						t.Fatalf("%s of %s: no error", c.name, showSurface(s))
					}
				}
			}
		}
	}
}

// R1: long lists do not take long.
func TestLongLists(t *testing.T) {
	var long []api.Rat
	var row []api.Pole
	for i := range 20000 {
		long = append(long, rational.Int(int64(i)))
		row = append(row, api.Pole{P: api.Point{long[i]}, W: num("1")})
	}
	tall := slices.Repeat([][]api.Pole{row[:2]}, len(long))
	for _, degree := range []int{1, api.MaxDegree, 9999, 19999, math.MaxInt} {
		for _, s := range []api.Surface{
			{U: 1, V: degree, KnotsU: list("0 0 1 1"), KnotsV: long, Poles: [][]api.Pole{row, row}},
			{U: degree, V: 1, KnotsU: long, KnotsV: list("0 0 1 1"), Poles: tall},
			{U: degree, V: 1, KnotsU: append(long, long...), KnotsV: list("0 0 1 1"), Poles: tall},
			{U: 1, V: degree, KnotsU: list("0 0 1 1"), KnotsV: append(long, long...), Poles: [][]api.Pole{row, row}},
		} {
			for _, c := range calls() {
				c.of(arguments{s, num("1/2"), num("1/2")})
			}
		}
	}
}

// R2, R3: what is done to a result changes no later one.
func TestResultsAreNew(t *testing.T) {
	for _, x := range validArguments() {
		for _, c := range calls() {
			first := c.of(x)
			before := fmt.Sprint(first)
			for _, r := range first.all() {
				clear(r.Num[:cap(r.Num)])
				clear(r.Den[:cap(r.Den)])
				*r = api.Rat{Neg: true}
			}
			expectText(t, c.name, fmt.Sprint(c.of(x)), before)
		}
	}
}

// R2: a nil list and an empty one are equivalent.
func TestEmptyLists(t *testing.T) {
	with := func(x arguments, f func(list []uint32) []uint32) arguments {
		x.S = copyOf(x.S)
		for i, r := range append(numbersOf(x.S), &x.U, &x.V) {
			// Neighbours differ, so that equal ones are compared.
			if i%2 == 0 {
				r.Num, r.Den = f(r.Num), f(r.Den)
			}
		}
		return x
	}
	filled := func(list []uint32) []uint32 { return append([]uint32{}, list...) }
	bare := func(list []uint32) []uint32 { return append([]uint32(nil), list...) }
	for _, x := range validArguments() {
		for _, c := range calls() {
			expectText(t, c.name+" with empty lists", fmt.Sprint(c.of(with(x, filled))), fmt.Sprint(c.of(with(x, bare))))
		}
	}
	for _, c := range calls() {
		none := arguments{S: api.Surface{U: 1, V: 1}}
		empty := arguments{S: api.Surface{U: 1, V: 1, KnotsU: []api.Rat{}, KnotsV: []api.Rat{}, Poles: [][]api.Pole{}}}
		expectText(t, c.name+" of empty lists", fmt.Sprint(c.of(empty)), fmt.Sprint(c.of(none)))
	}
}

// R4, R6: numbers in results are valid, and there are none with an error.
func TestResultsAreValid(t *testing.T) {
	for _, x := range validArguments() {
		for _, c := range calls() {
			out := c.of(x)
			for _, r := range out.all() {
				if !rational.Valid(*r) {
					t.Fatalf("%s: %v", c.name, *r)
				}
			}
			if out.e != api.OK {
				expectZero(t, c.name, out)
			}
			if c.name == "Numerators" && slices.ContainsFunc(out.nets[:], func(n api.Net) bool { return !tensor.Valid(n) }) {
				t.Fatalf("Numerators of %s are not valid", showSurface(x.S))
			}
		}
	}
}
