package nearest_test

import (
	"cmp"
	"fmt"
	"math"
	"reflect"
	"slices"
	"testing"

	"brepkernel/api"
	"brepkernel/nearest"
	"brepkernel/rational"
)

// arguments are those that the functions of the layer take.
type arguments struct {
	O    operand
	P    api.Point
	Prec api.Prec
}

// result is what a function of the layer returns.
type result struct {
	span  api.Span
	cells []api.Cell
	e     api.Errno
}

// call is a function of the layer.
type call struct {
	name string
	of   func(x arguments) result
}

func calls() []call {
	of := func(s api.Span, cells []api.Cell, e api.Errno) result { return result{s, cells, e} }
	return []call{
		{"Curve", func(x arguments) result { return of(nearest.Curve(x.O.curve, x.P, x.Prec)) }},
		{"Surface", func(x arguments) result { return of(nearest.Surface(x.O.surface, x.P, x.Prec)) }},
	}
}

// all returns pointers to the numbers of a result.
func (r *result) all() []*api.Rat {
	out := []*api.Rat{&r.span.Lo, &r.span.Hi}
	for _, c := range r.cells {
		for _, l := range [2][]api.Span{c.A, c.B} {
			for i := range l {
				out = append(out, &l[i].Lo, &l[i].Hi)
			}
		}
	}
	return out
}

// all returns pointers to the numbers of arguments.
func (x *arguments) all() []*api.Rat {
	return append(x.O.numbersOf(), &x.P[0], &x.P[1], &x.P[2], &x.Prec.Width)
}

// roomy returns a number with limbs behind it that are not its.
func roomy(r api.Rat) api.Rat {
	room := func(a []uint32) []uint32 { return append(slices.Clone(a), 11, 22, 33)[:len(a)] }
	return api.Rat{Neg: r.Neg, Num: room(r.Num), Den: room(r.Den)}
}

// behind returns a list with elements behind it that are not its.
func behind[T any](list []T, more ...T) []T {
	return slices.Concat(list, more)[:len(list)]
}

// argumentsOf returns arguments with memory of their own.
func argumentsOf(c, s operand, p api.Point, prec api.Prec) arguments {
	pole := quarter().curve.Poles
	knots := func(l []api.Rat) []api.Rat { return behind(l, list("55 66")...) }
	x := arguments{P: p, Prec: prec}
	x.O.curve = api.Curve{Degree: c.curve.Degree, Knots: knots(c.curve.Knots), Poles: behind(c.curve.Poles, pole...)}
	x.O.surface = api.Surface{U: s.surface.U, V: s.surface.V, KnotsU: knots(s.surface.KnotsU), KnotsV: knots(s.surface.KnotsV)}
	row := func(l []api.Pole) []api.Pole { return behind(l, pole...) }
	x.O.surface.Poles = behind(each(s.surface.Poles, row), pole)
	for _, r := range x.all() {
		*r = roomy(*r)
	}
	return x
}

// validArguments returns those for which the functions are promised, also with
// precisions that are not valid.
func validArguments() []arguments {
	s := source(21)
	lines, areas := curves(), surfaces()[:16]
	precs := []api.Prec{precision(0, 0, "0"), precision(3, 9, "0"), precision(2, 30, "1/3"), precision(5, 4, "1/2"), precision(24, 0, "7")}
	var out []arguments
	for i := range max(len(lines), len(areas)) {
		c, a := lines[i%len(lines)], areas[i%len(areas)]
		for n, p := range append(s.points(c), s.points(a)...) {
			out = append(out, argumentsOf(c, a, p, precs[(i+n)%len(precs)]))
		}
		out = append(out, argumentsOf(c, a, pt("1 2 3"), wrongPrecisions()[i%len(wrongPrecisions())]))
	}
	return out
}

// wrongOperands returns some whose degrees, knots and poles do not fit together, and
// some with numbers that are not valid.
func wrongOperands() []operand {
	s := source(22)
	out := []operand{{}}
	with := func(change func(c *api.Curve, s *api.Surface)) {
		x := operand{wave().curve, hill().surface}
		change(&x.curve, &x.surface)
		out = append(out, x)
	}
	for _, n := range []int{-1, 0, 1, 2, 3, 7, math.MaxInt, math.MinInt} {
		with(func(c *api.Curve, s *api.Surface) { c.Degree, s.U = n, n })
		with(func(c *api.Curve, s *api.Surface) { c.Degree, s.V = n, n })
		with(func(c *api.Curve, s *api.Surface) { c.Degree, s.U, s.V = n, n, n })
	}
	with(func(c *api.Curve, s *api.Surface) { c.Knots, s.KnotsU = nil, nil })
	with(func(c *api.Curve, s *api.Surface) { c.Poles, s.KnotsV = nil, nil })
	with(func(c *api.Curve, s *api.Surface) { c.Poles, s.Poles = c.Poles[1:], nil })
	with(func(c *api.Curve, s *api.Surface) { c.Knots, s.Poles = c.Knots[1:], s.Poles[1:] })
	with(func(c *api.Curve, s *api.Surface) { slices.Reverse(c.Knots); s.Poles[1] = nil })
	with(func(c *api.Curve, s *api.Surface) { slices.Reverse(c.Knots); s.Poles[0] = s.Poles[0][:2] })
	with(func(c *api.Curve, s *api.Surface) { c.Knots = list("1 1 1 1 1 1 1"); slices.Reverse(s.KnotsU) })
	with(func(c *api.Curve, s *api.Surface) { c.Knots = list("0 0 0 3 2 2 2"); slices.Reverse(s.KnotsV) })
	for _, r := range append(wrongNumbers(), list("0 -1 1e90 -7/3")...) {
		for n := range 6 {
			x := operand{wave().curve, hill().surface}
			all := x.numbersOf()
			for range 1 + 2*n {
				*all[s.below(len(all))] = r
			}
			out = append(out, x)
		}
		with(func(c *api.Curve, s *api.Surface) {
			c.Poles[1].W, s.Poles[1][1].W = r, r
		})
		all, weights := operand{wave().curve, hill().surface}, operand{wave().curve, hill().surface}
		for _, x := range all.numbersOf() {
			*x = r
		}
		for _, row := range append(weights.surface.Poles, weights.curve.Poles) {
			for j := range row {
				row[j].W = r
			}
		}
		out = append(out, all, weights)
	}
	return out
}

// invalidArguments returns those with curves, surfaces or points that are not valid.
func invalidArguments() []arguments {
	s := source(23)
	wrong := append(wrongNumbers(), api.Rat{})
	some := func() api.Rat {
		if s.below(3) > 0 {
			return rat(s.number())
		}
		return wrong[s.below(len(wrong))]
	}
	precs := append(wrongPrecisions(), precision(4, 12, "0"), precision(3, 30, "1/5"), precision(24, 20, "0"))
	var out []arguments
	for i, o := range wrongOperands() {
		for _, p := range []api.Point{pt("1 2 0"), pt("0 0 -1/3"), {some(), some(), some()}} {
			out = append(out, argumentsOf(o, o, p, precs[len(precs)-1-i%3]))
		}
		out = append(out, argumentsOf(o, o, pt("0 0 9"), precs[i%len(precs)]))
	}
	for _, r := range wrong {
		for i := range 3 {
			out = append(out, argumentsOf(wave(), hill(), api.Point{r, r, r}, precs[len(precs)-1-i]))
			out = append(out, argumentsOf(wave(), hill(), api.Point{some(), r, some()}, precs[len(precs)-1-i]))
		}
	}
	return out
}

// region is the memory of a list, from its first element to its capacity.
type region struct{ from, to uintptr }

func regionOf[T any](list []T) region {
	from := reflect.ValueOf(list).Pointer()
	return region{from, from + uintptr(cap(list))*reflect.TypeFor[T]().Size()}
}

// limbsOf returns the regions of the limbs of numbers.
func limbsOf(numbers []*api.Rat) []region {
	var out []region
	for _, r := range numbers {
		out = append(out, regionOf(r.Num), regionOf(r.Den))
	}
	return out
}

// regions returns those of a result.
func (r *result) regions() []region {
	out := append(limbsOf(r.all()), regionOf(r.cells))
	for _, c := range r.cells {
		out = append(out, regionOf(c.A), regionOf(c.B))
	}
	return out
}

// regions returns those of arguments.
func (x *arguments) regions() []region {
	c, s := x.O.curve, x.O.surface
	out := append(limbsOf(x.all()), regionOf(c.Knots), regionOf(c.Poles), regionOf(s.KnotsU), regionOf(s.KnotsV), regionOf(s.Poles))
	return append(out, each(s.Poles, regionOf[api.Pole])...)
}

// shared reports whether two of the regions have common memory.
func shared(all []region) bool {
	all = slices.DeleteFunc(all, func(r region) bool { return r.from == r.to })
	slices.SortFunc(all, func(a, b region) int { return cmp.Compare(a.from, b.from) })
	for i := 1; i < len(all); i++ {
		if all[i].from < all[i-1].to {
			return true
		}
	}
	return false
}

// sharedWith reports whether one of the regions has memory in common with another list of
// regions, of which some may be one.
func sharedWith(all, other []region) bool {
	return slices.ContainsFunc(other, func(r region) bool {
		return slices.ContainsFunc(all, func(x region) bool { return x.from < r.to && r.from < x.to })
	})
}

// snapshot returns all of the arguments, with what lies behind their lists.
func snapshot(x arguments) []int {
	c, s := &x.O.curve, &x.O.surface
	out := []int{x.Prec.Depth, x.Prec.Work, c.Degree, s.U, s.V, len(c.Knots), len(c.Poles), len(s.KnotsU), len(s.KnotsV), len(s.Poles)}
	c.Knots, c.Poles = c.Knots[:cap(c.Knots)], c.Poles[:cap(c.Poles)]
	s.KnotsU, s.KnotsV, s.Poles = s.KnotsU[:cap(s.KnotsU)], s.KnotsV[:cap(s.KnotsV)], slices.Clone(s.Poles[:cap(s.Poles)])
	for i, row := range s.Poles {
		out = append(out, len(row), int(regionOf(row).from))
		s.Poles[i] = row[:cap(row)]
	}
	for _, r := range x.all() {
		if r.Neg {
			out = append(out, -1)
		}
		for _, limbs := range [2][]uint32{r.Num, r.Den} {
			out = append(out, len(limbs), int(regionOf(limbs).from))
			for _, limb := range limbs[:cap(limbs)] {
				out = append(out, int(limb))
			}
		}
	}
	return out
}

// R1, R2: no function panics, modifies or retains its arguments, or returns lists that
// share memory, whether or not the arguments are valid.
func TestArgumentsStay(t *testing.T) {
	for _, x := range append(validArguments(), invalidArguments()...) {
		before := snapshot(x)
		for _, c := range calls() {
			out := c.of(x)
			if shared(out.regions()) || sharedWith(out.regions(), x.regions()) {
				t.Fatalf("%s: the result shares memory with arguments or with itself: %v", c.name, x)
			}
		}
		if !slices.Equal(snapshot(x), before) {
			t.Fatalf("a function modifies its arguments %v", x)
		}
	}
}

// R1: no function looks behind the end of a list.
func TestListsWithoutRoom(t *testing.T) {
	for _, x := range append(validArguments(), invalidArguments()...) {
		x.O = x.O.copied()
		for _, r := range x.all() {
			r.Num, r.Den = slices.Clip(r.Num), slices.Clip(r.Den)
		}
		c, s := &x.O.curve, &x.O.surface
		c.Knots, c.Poles = slices.Clip(c.Knots), slices.Clip(c.Poles)
		s.KnotsU, s.KnotsV, s.Poles = slices.Clip(s.KnotsU), slices.Clip(s.KnotsV), slices.Clip(s.Poles)
		for i, row := range s.Poles {
			s.Poles[i] = slices.Clip(row)
		}
		for _, c := range calls() {
			c.of(x)
		}
	}
}

// R1: long lists do not take long.
func TestLongLists(t *testing.T) {
	x := arguments{Prec: precision(api.MaxDepth, api.MaxWork, "0")}
	x.O.curve.Degree, x.O.surface.U, x.O.surface.V = 1, 1, 1
	for i := range 20000 {
		x.O.curve.Knots = append(x.O.curve.Knots, rational.Int(int64(i)))
		x.O.curve.Poles = append(x.O.curve.Poles, api.Pole{P: api.Point{x.O.curve.Knots[i]}, W: num("1")})
	}
	x.O.surface.KnotsU, x.O.surface.KnotsV = x.O.curve.Knots, x.O.curve.Knots
	x.O.surface.Poles = slices.Repeat([][]api.Pole{x.O.curve.Poles}, 20000)
	for _, c := range calls() {
		c.of(x)
	}
}

// R2, R3: what is done to a result changes no later one.
func TestResultsAreNew(t *testing.T) {
	for _, x := range validArguments() {
		for _, c := range calls() {
			first := c.of(x)
			before := fmt.Sprint(first)
			for _, r := range first.all() {
				clear(r.Num[:cap(r.Num)])
				clear(r.Den[:cap(r.Den)])
				*r = api.Rat{Neg: true}
			}
			clear(first.cells)
			expectText(t, c.name, fmt.Sprint(c.of(x)), before)
		}
	}
}

// R2: a nil list and an empty one are equivalent.
func TestEmptyLists(t *testing.T) {
	with := func(x arguments, f func(list []uint32) []uint32) arguments {
		x.O = x.O.copied()
		// Neighbours differ, so that equal ones are compared.
		for i, r := range x.all() {
			if i%2 == 0 {
				r.Num, r.Den = f(r.Num), f(r.Den)
			}
		}
		return x
	}
	filled := func(list []uint32) []uint32 { return append([]uint32{}, list...) }
	bare := func(list []uint32) []uint32 { return append([]uint32(nil), list...) }
	for _, x := range validArguments() {
		for _, c := range calls() {
			expectText(t, c.name+" with empty lists", fmt.Sprint(c.of(with(x, filled))), fmt.Sprint(c.of(with(x, bare))))
		}
	}
	none := operand{api.Curve{Knots: []api.Rat{}, Poles: []api.Pole{}}, api.Surface{KnotsU: []api.Rat{}, KnotsV: []api.Rat{}, Poles: [][]api.Pole{}}}
	for _, c := range calls() {
		expectText(t, c.name+" of empty lists", fmt.Sprint(c.of(arguments{O: none})), fmt.Sprint(c.of(arguments{})))
	}
}

// R4, R6, R7: results are valid and have nothing that is not promised, and there are none
// with an error.
func TestResultsAreValid(t *testing.T) {
	seen := map[api.Errno]bool{}
	for _, x := range validArguments() {
		for i, c := range calls() {
			out := c.of(x)
			seen[out.e] = true
			for _, r := range out.all() {
				if !rational.Valid(*r) {
					t.Fatalf("%s: %v", c.name, *r)
				}
			}
			if out.e != api.OK {
				expectNothing(t, out.span, out.cells)
				continue
			}
			if len(out.cells) == 0 || rational.Cmp(out.span.Lo, out.span.Hi) > 0 {
				t.Fatalf("%s: %v", c.name, out)
			}
			for _, cell := range out.cells {
				if len(cell.A) != i+1 || len(cell.B) > 0 || cell.Kind != api.KindOpen || cell.K != 0 {
					t.Fatalf("%s: the cell %v", c.name, cell)
				}
			}
		}
	}
	if len(seen) != 2 || !seen[api.OK] || !seen[api.ErrArg] {
		t.Errorf("errors %v", seen)
	}
}
