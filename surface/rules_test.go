package surface_test

import (
	"cmp"
	"fmt"
	"math"
	"math/big"
	"reflect"
	"slices"
	"testing"

	"brepkernel/api"
	"brepkernel/curve"
	"brepkernel/rational"
	"brepkernel/surface"
)

// arguments are those that the functions of the layer take.
type arguments struct {
	S, T api.Surface
	U, V api.Rat
	X, Y api.Span
	M    api.Map
}

// result is what a function of the layer returns. What it does not return is zero.
type result struct {
	surfaces []api.Surface
	curve    api.Curve
	numbers  []api.Rat
	yes      bool
	e        api.Errno
}

// call is a function of the layer.
type call struct {
	name string
	of   func(x arguments) result
}

func calls() []call {
	one := func(s api.Surface, e api.Errno) result { return result{surfaces: []api.Surface{s}, e: e} }
	point := func(p api.Point, e api.Errno) result { return result{numbers: p[:], e: e} }
	line := func(c api.Curve, e api.Errno) result { return result{curve: c, e: e} }
	return []call{
		{"Check", func(x arguments) result { return result{e: surface.Check(x.S)} }},
		{"Same", func(x arguments) result { return result{yes: surface.Same(x.S, x.T)} }},
		{"Same of a surface and itself", func(x arguments) result { return result{yes: surface.Same(x.S, x.S)} }},
		{"Domain", func(x arguments) result {
			u, v := surface.Domain(x.S)
			return result{numbers: []api.Rat{u.Lo, u.Hi, v.Lo, v.Hi}}
		}},
		{"Eval", func(x arguments) result { return point(surface.Eval(x.S, x.U, x.V)) }},
		{"Eval at an end", func(x arguments) result { return point(surface.Eval(x.S, x.X.Hi, x.Y.Hi)) }},
		{"InsertU", func(x arguments) result { return one(surface.InsertU(x.S, x.U)) }},
		{"InsertV", func(x arguments) result { return one(surface.InsertV(x.S, x.V)) }},
		{"InsertU at a knot", func(x arguments) result { return one(surface.InsertU(x.S, middle(x.S.KnotsU, x.U))) }},
		{"InsertV at a knot", func(x arguments) result { return one(surface.InsertV(x.S, middle(x.S.KnotsV, x.V))) }},
		{"ElevateU", func(x arguments) result { return one(surface.ElevateU(x.S)) }},
		{"ElevateV", func(x arguments) result { return one(surface.ElevateV(x.S)) }},
		{"Cut", func(x arguments) result { return one(surface.Cut(x.S, x.X, x.Y)) }},
		{"Cut to the whole domain", func(x arguments) result {
			u, v := surface.Domain(x.S)
			return one(surface.Cut(x.S, u, v))
		}},
		{"Cut in the direction of u", func(x arguments) result {
			_, v := surface.Domain(x.S)
			return one(surface.Cut(x.S, x.X, v))
		}},
		{"Cut in the direction of v", func(x arguments) result {
			u, _ := surface.Domain(x.S)
			return one(surface.Cut(x.S, u, x.Y))
		}},
		{"Swap", func(x arguments) result { return one(surface.Swap(x.S), api.OK) }},
		{"MirrorU", func(x arguments) result { return one(surface.MirrorU(x.S), api.OK) }},
		{"MirrorV", func(x arguments) result { return one(surface.MirrorV(x.S), api.OK) }},
		{"IsoU", func(x arguments) result { return line(surface.IsoU(x.S, x.U)) }},
		{"IsoV", func(x arguments) result { return line(surface.IsoV(x.S, x.V)) }},
		{"IsoU at an end", func(x arguments) result { return line(surface.IsoU(x.S, x.X.Hi)) }},
		{"Move", func(x arguments) result { return one(surface.Move(x.S, x.M), api.OK) }},
		{"Patches", func(x arguments) result { return result{surfaces: surface.Patches(x.S)} }},
	}
}

// middle returns the number in the middle of a list, or another one if it is empty.
func middle(list []api.Rat, other api.Rat) api.Rat {
	if len(list) == 0 {
		return other
	}
	return list[len(list)/2]
}

// all returns pointers to the numbers of a result.
func (r result) all() []*api.Rat {
	var out []*api.Rat
	for _, s := range append(slices.Clone(r.surfaces), surfaceAround(r.curve)) {
		out = append(out, numbersOf(s)...)
	}
	for i := range r.numbers {
		out = append(out, &r.numbers[i])
	}
	return out
}

// surfaceAround returns a surface that has the lists of a curve.
func surfaceAround(c api.Curve) api.Surface {
	return api.Surface{U: c.Degree, KnotsU: c.Knots, Poles: [][]api.Pole{c.Poles}}
}

// others returns pointers to the numbers of arguments that are not those of surfaces.
func (x *arguments) others() []*api.Rat {
	out := []*api.Rat{&x.U, &x.V, &x.X.Lo, &x.X.Hi, &x.Y.Lo, &x.Y.Hi}
	for _, p := range []*api.Point{&x.M.M[0], &x.M.M[1], &x.M.M[2], &x.M.T} {
		out = append(out, &p[0], &p[1], &p[2])
	}
	return out
}

// roomy returns a number with limbs behind it that are not its.
func roomy(r api.Rat) api.Rat {
	room := func(a []uint32) []uint32 { return append(slices.Clone(a), 11, 22, 33)[:len(a)] }
	return api.Rat{Neg: r.Neg, Num: room(r.Num), Den: room(r.Den)}
}

// roomySurface returns a surface with memory of its own, and with knots, poles and rows
// behind its own ones.
func roomySurface(s api.Surface) api.Surface {
	more := saddle()
	out := api.Surface{U: s.U, V: s.V, KnotsU: slices.Concat(s.KnotsU, more.KnotsU), KnotsV: slices.Concat(s.KnotsV, more.KnotsV)}
	for _, row := range append(slices.Clone(s.Poles), more.Poles...) {
		out.Poles = append(out.Poles, slices.Concat(row, more.Poles[0]))
	}
	for _, r := range numbersOf(out) {
		*r = roomy(*r)
	}
	out.KnotsU, out.KnotsV, out.Poles = out.KnotsU[:len(s.KnotsU)], out.KnotsV[:len(s.KnotsV)], out.Poles[:len(s.Poles)]
	for i, row := range s.Poles {
		out.Poles[i] = out.Poles[i][:len(row)]
	}
	return out
}

// argumentsOf returns arguments with memory of their own. Of two numbers, the lesser one
// is the lower end of a span, if they are valid.
func argumentsOf(s, other api.Surface, m api.Map, nextU, nextV func() api.Rat) arguments {
	x := arguments{S: roomySurface(s), T: roomySurface(other), U: nextU(), V: nextV(), X: api.Span{Lo: nextU(), Hi: nextU()}, Y: api.Span{Lo: nextV(), Hi: nextV()}, M: m}
	for _, ends := range []*api.Span{&x.X, &x.Y} {
		if rational.Valid(ends.Lo) && rational.Valid(ends.Hi) && rational.Cmp(ends.Lo, ends.Hi) > 0 {
			ends.Lo, ends.Hi = ends.Hi, ends.Lo
		}
	}
	for _, r := range x.others() {
		*r = roomy(*r)
	}
	return x
}

// validArguments returns those for which the functions are promised. Parameters may be
// out of range.
func validArguments() []arguments {
	s := source(21)
	all := surfaces()
	var out []arguments
	for i, x := range all {
		m := modelOf(x)
		inside := func(d side) func() api.Rat {
			return func() api.Rat { return rat(d.parameters()[s.below(len(d.parameters()))]) }
		}
		out = append(out, argumentsOf(x, all[len(all)-1-i], s.affine(), inside(m.u), inside(m.v)))
		if i%4 == 0 {
			any := func() api.Rat { return rat(s.number()) }
			out = append(out, argumentsOf(x, x, s.affine(), any, any))
		}
	}
	return out
}

// misfits returns surfaces whose degrees, knots and poles do not fit together.
func misfits() []api.Surface {
	out := []api.Surface{
		{}, {U: 1, V: 1}, {U: 3, V: 2, KnotsU: list("0 1"), KnotsV: list("0 1")}, {U: 1, V: 1, Poles: hill().Poles},
		{U: 1, V: 1, KnotsU: []api.Rat{}, KnotsV: []api.Rat{}, Poles: [][]api.Pole{}}, {U: 1, V: 1, KnotsU: list("0 0 1 1"), KnotsV: list("0 0 1 1"), Poles: [][]api.Pole{nil, nil}},
		{U: 1, V: 1, KnotsU: list("0 0 1 1"), KnotsV: list("0 0 1 1"), Poles: [][]api.Pole{{}, {}, {}}},
	}
	for _, f := range faults()[4:25] {
		s := hill()
		f.with(&s)
		out = append(out, s)
	}
	for _, degree := range []int{-1, 0, 3, 4, 5, api.MaxDegree + 1, 100, math.MaxInt, math.MaxInt - 6, math.MinInt, math.MinInt + 1, math.MinInt + 6} {
		u, v := hill(), hill()
		u.U, v.V = degree, degree
		out = append(out, u, v)
	}
	return append(out, ragged()...)
}

// ragged returns surfaces with rows of different lengths, also such that have as many
// poles as they should in other places.
func ragged() []api.Surface {
	var out []api.Surface
	for _, lengths := range [][]int{{3}, {12}, {3, 3, 3}, {3, 3, 3, 3, 3}, {2, 2, 2, 2}, {4, 4, 4, 4}, {4, 4, 4}, {3, 3, 3, 2}, {2, 3, 3, 3}, {3, 0, 3, 3, 3}, {0, 3, 3, 3}, {3, 3, 3, 3, 0}, {4, 2, 3, 3}, {3, 4, 3, 3, 2}, {6, 3, 3}} {
		s := hill()
		s.Poles = nil
		for i, n := range lengths {
			s.Poles = append(s.Poles, slices.Repeat(hill().Poles[i%4][:1], n))
		}
		out = append(out, s)
	}
	return out
}

// wrongNumbered returns surfaces whose parts fit together, with numbers that are not
// valid, knots that are not in order, and weights that are not positive.
func wrongNumbered() []api.Surface {
	s := source(22)
	var out []api.Surface
	numbers := slices.Concat(wrongNumbers(), []api.Rat{{Num: []uint32{10}, Den: []uint32{2}}, {Num: []uint32{5, 0}}}, list("0 -1 -7/3 1e90"))
	for _, base := range []api.Surface{hill(), saddle(), surfaces()[10]} {
		for _, r := range numbers {
			for n := range 6 {
				x := copyOf(base)
				all := numbersOf(x)
				for range n {
					*all[s.below(len(all))] = r
				}
				if n > 3 {
					x.KnotsU[s.below(len(x.KnotsU))], x.KnotsV[s.below(len(x.KnotsV))] = r, r
				}
				if n == 0 {
					x.KnotsU[x.U+1], x.KnotsV[x.V+1] = r, r
				}
				out = append(out, x)
			}
		}
		zero := copyOf(base)
		for _, row := range zero.Poles {
			for j := range row {
				row[j].W = api.Rat{}
			}
		}
		out = append(out, zero)
	}
	return append(out, disordered()...)
}

// disordered returns surfaces with knots of which neighbours are in order and others are
// not, because 0 / 0 has no place in it.
func disordered() []api.Surface {
	nothing := api.Rat{Num: []uint32{0}, Den: []uint32{0, 0}}
	var out []api.Surface
	for _, k := range [][]api.Rat{
		slices.Concat(list("-1 -1 -1 -1 0 2"), slices.Repeat([]api.Rat{nothing}, 4)),
		slices.Concat(list("5/2 5/2 5/2 5/2"), []api.Rat{nothing, num("1"), nothing}, list("2 2 2 2")),
		slices.Concat(list("5 5 5 5"), []api.Rat{nothing}, list("1 1 1 1")),
		slices.Concat(slices.Repeat([]api.Rat{nothing}, 4), list("1 0"), slices.Repeat([]api.Rat{nothing}, 4)),
	} {
		u := api.Surface{U: 3, V: 1, KnotsU: k, KnotsV: list("0 0 1 1")}
		for range len(k) - 4 {
			u.Poles = append(u.Poles, hill().Poles[1][:2])
		}
		v := api.Surface{U: 1, V: 3, KnotsU: list("0 0 1 1"), KnotsV: k}
		for range 2 {
			v.Poles = append(v.Poles, slices.Repeat(hill().Poles[1][:1], len(k)-4))
		}
		out = append(out, u, v)
	}
	return out
}

// invalidArguments returns those with surfaces that are not valid, and those with other
// numbers that are not.
func invalidArguments() []arguments {
	s := source(23)
	wrong := append(wrongNumbers(), api.Rat{})
	some := func() api.Rat {
		if s.below(3) > 0 {
			return rat(s.number())
		}
		return wrong[s.below(len(wrong))]
	}
	var out []arguments
	for _, x := range slices.Concat(misfits(), wrongNumbered(), []api.Surface{hill(), saddle()}) {
		m := s.affine()
		m.M[s.below(3)][s.below(3)], m.T[s.below(3)] = some(), some()
		out = append(out, argumentsOf(x, hill(), m, some, some))
	}
	for _, r := range wrong {
		same := func() api.Rat { return r }
		for _, x := range append(surfaces()[:8], hill(), saddle()) {
			out = append(out, argumentsOf(x, x, s.affine(), same, same), argumentsOf(x, x, s.affine(), some, same))
		}
	}
	return out
}

// region is the memory of a list, from its first element to its capacity.
type region struct{ from, to uintptr }

func regionOf[T any](list []T) region {
	from := reflect.ValueOf(list).Pointer()
	return region{from, from + uintptr(cap(list))*reflect.TypeFor[T]().Size()}
}

// regions returns those of surfaces and of limbs of other numbers.
func regions(all []api.Surface, numbers []*api.Rat) []region {
	var out []region
	for _, s := range all {
		out = append(out, regionOf(s.KnotsU), regionOf(s.KnotsV), regionOf(s.Poles))
		for _, row := range s.Poles {
			out = append(out, regionOf(row))
		}
		numbers = append(numbers, numbersOf(s)...)
	}
	for _, r := range numbers {
		out = append(out, regionOf(r.Num), regionOf(r.Den))
	}
	return out
}

// regions returns those of a result.
func (r result) regions() []region {
	var numbers []*api.Rat
	for i := range r.numbers {
		numbers = append(numbers, &r.numbers[i])
	}
	for i := range r.curve.Poles {
		p := &r.curve.Poles[i]
		numbers = append(numbers, &p.P[0], &p.P[1], &p.P[2], &p.W)
	}
	for i := range r.curve.Knots {
		numbers = append(numbers, &r.curve.Knots[i])
	}
	return append(regions(r.surfaces, numbers), regionOf(r.curve.Knots), regionOf(r.curve.Poles))
}

// shared reports whether two of the regions have common memory.
func shared(all []region) bool {
	all = slices.DeleteFunc(all, func(r region) bool { return r.from == r.to })
	slices.SortFunc(all, func(a, b region) int { return cmp.Compare(a.from, b.from) })
	for i := 1; i < len(all); i++ {
		if all[i].from < all[i-1].to {
			return true
		}
	}
	return false
}

// snapshot returns all of the arguments, with what lies behind their lists.
func snapshot(x arguments) []int {
	var out []int
	numbers := x.others()
	for _, s := range []api.Surface{x.S, x.T} {
		out = append(out, s.U, s.V)
		s.KnotsU, s.KnotsV, s.Poles = s.KnotsU[:cap(s.KnotsU)], s.KnotsV[:cap(s.KnotsV)], slices.Clone(s.Poles[:cap(s.Poles)])
		for i, row := range s.Poles {
			s.Poles[i] = row[:cap(row)]
			out = append(out, len(row), int(regionOf(row).from))
		}
		numbers = append(numbers, numbersOf(s)...)
	}
	for _, r := range numbers {
		if r.Neg {
			out = append(out, -1)
		}
		for _, limbs := range [2][]uint32{r.Num, r.Den} {
			out = append(out, len(limbs), int(regionOf(limbs).from))
			for _, limb := range limbs[:cap(limbs)] {
				out = append(out, int(limb))
			}
		}
	}
	return out
}

// R1, R2: no function panics, modifies or retains its arguments, or returns lists that
// share memory, whether or not the arguments are valid.
func TestArgumentsStay(t *testing.T) {
	for _, x := range append(validArguments(), invalidArguments()...) {
		before := snapshot(x)
		given := regions([]api.Surface{x.S, x.T}, x.others())
		for _, c := range calls() {
			if shared(append(c.of(x).regions(), given...)) {
				t.Fatalf("%s: the result shares memory with arguments or with itself: %v", c.name, x)
			}
		}
		if !slices.Equal(snapshot(x), before) {
			t.Fatalf("a function modifies its arguments %v", x)
		}
	}
}

// R1: no function looks behind the end of a list.
func TestListsWithoutRoom(t *testing.T) {
	for _, x := range append(validArguments(), invalidArguments()...) {
		for _, s := range []*api.Surface{&x.S, &x.T} {
			s.KnotsU, s.KnotsV, s.Poles = slices.Clip(s.KnotsU), slices.Clip(s.KnotsV), slices.Clip(s.Poles)
			for i, row := range s.Poles {
				s.Poles[i] = slices.Clip(row)
			}
		}
		for _, c := range calls() {
			c.of(x)
		}
	}
}

// Rows that lie in the same memory are rows like others.
func TestRowsInOneList(t *testing.T) {
	s := hill()
	for i := range s.Poles {
		s.Poles[i] = s.Poles[1]
	}
	apart, numbers := copyOf(s), source(24)
	move := numbers.affine()
	x := arguments{S: s, T: s, U: num("1/2"), V: num("1/3"), X: spanText("1/2 2"), Y: spanText("1/3 3/2"), M: move}
	for _, c := range calls() {
		want := c.of(arguments{S: apart, T: apart, U: x.U, V: x.V, X: x.X, Y: x.Y, M: x.M})
		got := c.of(x)
		expectText(t, c.name, fmt.Sprint(got), fmt.Sprint(want))
		if shared(got.regions()) {
			t.Fatalf("%s: the result shares memory with itself", c.name)
		}
	}
	expectText(t, "the argument", showSurface(s), showSurface(apart))
}

// Where degrees, knots and poles do not fit together, nothing is computed for which they
// are needed.
func TestMisfits(t *testing.T) {
	for _, s := range misfits() {
		x := arguments{S: s, U: num("1/2"), V: num("1/2"), X: spanText("1/3 2/3"), Y: spanText("1/3 2/3")}
		for _, f := range calls() {
			out := f.of(x)
			switch f.name {
			case "Eval", "InsertU", "InsertV", "ElevateU", "ElevateV", "Cut", "IsoU", "IsoV":
				if out.e == api.OK {
					t.Errorf("%s of %s: no error", f.name, showSurface(s))
				}
				expectZero(t, f.name, out)
			case "Patches":
				if len(out.surfaces) > 0 {
					t.Errorf("Patches of %s", showSurface(s))
				}
			}
		}
	}
}

// expectZero looks whether what is returned with an error is zero.
func expectZero(t *testing.T, what string, out result) {
	t.Helper()
	for _, s := range append(slices.Clone(out.surfaces), api.Surface{U: out.curve.Degree, KnotsU: out.curve.Knots}) {
		expectNothing(t, what, s)
	}
	if len(out.curve.Poles) > 0 {
		t.Fatalf("%s: %s", what, showCurve(out.curve))
	}
	for _, r := range out.all() {
		if r.Neg || len(r.Num) > 0 || len(r.Den) > 0 {
			t.Fatalf("%s: %v with error %d", what, *r, out.e)
		}
	}
}

// R1: long lists do not take long.
func TestLongLists(t *testing.T) {
	var long []api.Rat
	var row []api.Pole
	for i := range 20000 {
		long = append(long, rational.Int(int64(i)))
		row = append(row, api.Pole{P: api.Point{long[i]}, W: num("1")})
	}
	var tall [][]api.Pole
	for range long {
		tall = append(tall, row[:2])
	}
	for _, degree := range []int{1, api.MaxDegree, 9999, 19998, math.MaxInt} {
		for _, s := range []api.Surface{
			{U: 1, V: degree, KnotsU: list("0 0 1 1"), KnotsV: long, Poles: [][]api.Pole{row, row}},
			{U: degree, V: 1, KnotsU: long, KnotsV: list("0 0 1 1"), Poles: tall},
			{U: degree, V: 1, KnotsU: long, KnotsV: long, Poles: tall},
		} {
			for _, f := range calls() {
				f.of(arguments{S: s, T: s, U: num("1/2"), V: num("1/2"), X: spanText("0 1"), Y: spanText("0 1")})
			}
		}
	}
}

// R2, R3: what is done to a result changes no later one.
func TestResultsAreNew(t *testing.T) {
	for _, x := range validArguments() {
		for _, c := range calls() {
			first := c.of(x)
			before := fmt.Sprint(first)
			for _, r := range first.all() {
				clear(r.Num[:cap(r.Num)])
				clear(r.Den[:cap(r.Den)])
				*r = api.Rat{Neg: true}
			}
			expectText(t, c.name, fmt.Sprint(c.of(x)), before)
		}
	}
}

// R2: a nil list and an empty one are equivalent.
func TestEmptyLists(t *testing.T) {
	with := func(x arguments, f func(list []uint32) []uint32) arguments {
		x.S, x.T = copyOf(x.S), copyOf(x.T)
		all := slices.Concat(numbersOf(x.S), numbersOf(x.T), x.others())
		// Neighbours differ, so that equal ones are compared.
		for i, r := range all {
			if i%2 == 0 {
				r.Num, r.Den = f(r.Num), f(r.Den)
			}
		}
		return x
	}
	filled := func(list []uint32) []uint32 { return append([]uint32{}, list...) }
	bare := func(list []uint32) []uint32 { return append([]uint32(nil), list...) }
	for _, x := range validArguments() {
		for _, c := range calls() {
			expectText(t, c.name+" with empty lists", fmt.Sprint(c.of(with(x, filled))), fmt.Sprint(c.of(with(x, bare))))
		}
	}
	for _, c := range calls() {
		none := arguments{S: api.Surface{U: 1, V: 1}}
		empty := arguments{S: api.Surface{U: 1, V: 1, KnotsU: []api.Rat{}, KnotsV: []api.Rat{}, Poles: [][]api.Pole{}}}
		expectText(t, c.name+" of empty lists", fmt.Sprint(c.of(empty)), fmt.Sprint(c.of(none)))
	}
}

// R4, R6: numbers in results are valid, and there are none with an error.
func TestResultsAreValid(t *testing.T) {
	for _, x := range validArguments() {
		for _, c := range calls() {
			out := c.of(x)
			for _, r := range out.all() {
				if !rational.Valid(*r) {
					t.Fatalf("%s: %v", c.name, *r)
				}
			}
			if out.e != api.OK {
				expectZero(t, c.name, out)
				continue
			}
			for _, s := range out.surfaces {
				if e := surface.Check(s); e != api.OK && e != api.ErrSize {
					t.Fatalf("%s: Check of a result: error %d", c.name, e)
				}
			}
			if e := curve.Check(out.curve); len(out.curve.Poles) > 0 && e != api.OK && e != api.ErrSize {
				t.Fatalf("%s: curve.Check of a result: error %d", c.name, e)
			}
		}
	}
}

// What is valid but for the lengths of numbers is computed with as usual.
func TestLongerThanValid(t *testing.T) {
	s := surfaceOf(2, 1, "0 0 0 1 2 2 2", "0 0 1 1", "0 0 0 1; 0 1 0 1 | 1 0 0 1; 1 1 0 2 | 2 0 0 1; 2 1 7 3 | 3 0 0 1; 3 1 1 1")
	s.Poles[1][1].P[2] = longBits()
	expectError(t, "Check", surface.Check(s), api.ErrSize)
	got, e := surface.Eval(s, num("1/2"), num("1/3"))
	expectError(t, "Eval", e, api.OK)
	expectText(t, "Eval", showPoint(got), showPoint(modelOf(s).point(big.NewRat(1, 2), big.NewRat(1, 3))))
	x := arguments{S: s, U: num("1/2"), V: num("1/3"), X: spanText("1/2 2"), Y: spanText("1/3 1/2")}
	for _, f := range calls() {
		if f.name == "Check" || f.name == "InsertV at a knot" {
			continue
		}
		expectError(t, f.name, f.of(x).e, api.OK)
	}
	if len(surface.Patches(s)) != 2 {
		t.Errorf("Patches of a surface with a long number")
	}
}
