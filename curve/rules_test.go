package curve_test

import (
	"cmp"
	"fmt"
	"math"
	"math/big"
	"reflect"
	"slices"
	"testing"

	"brepkernel/api"
	"brepkernel/curve"
	"brepkernel/rational"
)

// arguments are those that the functions of the layer take.
type arguments struct {
	C, D    api.Curve
	T, A, B api.Rat
	L       []api.Rat
	M       api.Map
}

// result is what a function of the layer returns. What it does not return is zero.
type result struct {
	curves  []api.Curve
	numbers []api.Rat
	yes     bool
	e       api.Errno
}

// call is a function of the layer.
type call struct {
	name string
	of   func(x arguments) result
}

func calls() []call {
	one := func(c api.Curve, e api.Errno) result { return result{curves: []api.Curve{c}, e: e} }
	points := func(e api.Errno, all ...api.Point) result {
		out := result{e: e}
		for _, p := range all {
			out.numbers = append(out.numbers, p[:]...)
		}
		return out
	}
	return []call{
		{"Check", func(x arguments) result { return result{e: curve.Check(x.C)} }},
		{"Same", func(x arguments) result { return result{yes: curve.Same(x.C, x.D)} }},
		{"Same of a curve and itself", func(x arguments) result { return result{yes: curve.Same(x.C, x.C)} }},
		{"Domain", func(x arguments) result {
			d := curve.Domain(x.C)
			return result{numbers: []api.Rat{d.Lo, d.Hi}}
		}},
		{"Ends", func(x arguments) result { a, b := curve.Ends(x.C); return points(api.OK, a, b) }},
		{"Eval", func(x arguments) result { p, e := curve.Eval(x.C, x.T); return points(e, p) }},
		{"Eval at the beginning", func(x arguments) result { p, e := curve.Eval(x.C, curve.Domain(x.C).Lo); return points(e, p) }},
		{"Eval at the end", func(x arguments) result { p, e := curve.Eval(x.C, curve.Domain(x.C).Hi); return points(e, p) }},
		{"Insert", func(x arguments) result { return one(curve.Insert(x.C, x.T)) }},
		{"Insert at a knot", func(x arguments) result { return one(curve.Insert(x.C, middle(x))) }},
		{"Refine", func(x arguments) result { return one(curve.Refine(x.C, x.L)) }},
		{"Refine with nothing", func(x arguments) result { return one(curve.Refine(x.C, nil)) }},
		{"Refine with knots", func(x arguments) result { return one(curve.Refine(x.C, x.C.Knots)) }},
		{"Split", func(x arguments) result {
			c, d, e := curve.Split(x.C, x.T)
			return result{curves: []api.Curve{c, d}, e: e}
		}},
		{"Split at a knot", func(x arguments) result {
			c, d, e := curve.Split(x.C, middle(x))
			return result{curves: []api.Curve{c, d}, e: e}
		}},
		{"Elevate", func(x arguments) result { return one(curve.Elevate(x.C)) }},
		{"Mirror", func(x arguments) result { return one(curve.Mirror(x.C), api.OK) }},
		{"Affine", func(x arguments) result { return one(curve.Affine(x.C, x.A, x.B)) }},
		{"Affine in the other order", func(x arguments) result { return one(curve.Affine(x.C, x.B, x.A)) }},
		{"Join", func(x arguments) result { return one(curve.Join(x.C, x.D)) }},
		{"Join of a curve and its mirror image", func(x arguments) result { return one(curve.Join(x.C, curve.Mirror(x.C))) }},
		{"Move", func(x arguments) result { return one(curve.Move(x.C, x.M), api.OK) }},
		{"Pieces", func(x arguments) result { return result{curves: curve.Pieces(x.C)} }},
	}
}

// middle returns a knot of a curve, or the parameter if it has none.
func middle(x arguments) api.Rat {
	if len(x.C.Knots) == 0 {
		return x.T
	}
	return x.C.Knots[len(x.C.Knots)/2]
}

// roomy returns a number with limbs behind it that are not its.
func roomy(r api.Rat) api.Rat {
	room := func(a []uint32) []uint32 { return append(slices.Clone(a), 11, 22, 33)[:len(a)] }
	return api.Rat{Neg: r.Neg, Num: room(r.Num), Den: room(r.Den)}
}

// roomyList returns a list with numbers behind it that are not its.
func roomyList(list []api.Rat) []api.Rat {
	var out []api.Rat
	for _, r := range append(slices.Clone(list), num("77"), num("-7/9")) {
		out = append(out, roomy(r))
	}
	return out[:len(list)]
}

func roomyPoint(p api.Point) api.Point {
	return api.Point{roomy(p[0]), roomy(p[1]), roomy(p[2])}
}

// roomyCurve returns a curve with knots and poles behind its own ones.
func roomyCurve(c api.Curve) api.Curve {
	var poles []api.Pole
	for _, p := range append(slices.Clone(c.Poles), quarter().Poles...) {
		poles = append(poles, api.Pole{P: roomyPoint(p.P), W: roomy(p.W)})
	}
	return api.Curve{Degree: c.Degree, Knots: roomyList(c.Knots), Poles: poles[:len(c.Poles)]}
}

func roomyMap(m api.Map) api.Map {
	return api.Map{M: [3]api.Point{roomyPoint(m.M[0]), roomyPoint(m.M[1]), roomyPoint(m.M[2])}, T: roomyPoint(m.T)}
}

// argumentsOf returns arguments with memory of their own.
func argumentsOf(c, d api.Curve, l []api.Rat, m api.Map, next func() api.Rat) arguments {
	return arguments{C: roomyCurve(c), D: roomyCurve(d), T: roomy(next()), A: roomy(next()), B: roomy(next()), L: roomyList(l), M: roomyMap(m)}
}

// validArguments returns those for which the functions are promised. Parameters may
// be out of range.
func validArguments() []arguments {
	s := source(21)
	all := curves()
	var out []arguments
	for i, c := range all {
		parameters := modelOf(c).parameters()
		inside := func() api.Rat { return rat(parameters[s.below(len(parameters))]) }
		d := all[min(i+1, len(all)-1)]
		out = append(out, argumentsOf(c, d, []api.Rat{inside(), inside()}, s.affine(), inside))
		if i%4 == 0 {
			any := func() api.Rat { return rat(s.number()) }
			out = append(out, argumentsOf(c, after(c, d), []api.Rat{any(), any()}, s.affine(), any))
		}
	}
	return out
}

// wrongCurves returns some that are not valid.
func wrongCurves() []api.Curve {
	out := []api.Curve{{}, {Degree: 1}, {Degree: 3, Knots: list("0 1")}, {Degree: 1, Poles: quarter().Poles}, {Degree: 1, Knots: []api.Rat{}, Poles: []api.Pole{}}}
	for _, f := range faults() {
		c := wave()
		f.with(&c)
		out = append(out, c)
	}
	for _, degree := range []int{-1, 0, 1, 3, 4, api.MaxDegree + 1, 100, math.MaxInt, math.MaxInt - 6, math.MinInt, math.MinInt + 1, math.MinInt + 6} {
		c := wave()
		c.Degree = degree
		out = append(out, c)
	}
	return slices.Concat(out, wrongNumbered(), disordered())
}

// disordered returns curves with knots of which neighbours are in order and others are
// not, because 0 / 0 has no place in it.
func disordered() []api.Curve {
	nothing := api.Rat{Num: []uint32{0}, Den: []uint32{0, 0}}
	var out []api.Curve
	for _, k := range [][]api.Rat{
		slices.Concat(list("-1 -1 -1 -1 0 2"), slices.Repeat([]api.Rat{nothing}, 4)),
		slices.Concat(list("5/2 5/2 5/2 5/2"), []api.Rat{nothing, num("1"), nothing}, list("2 2 2 2")),
		slices.Concat(list("5 5 5 5"), []api.Rat{nothing}, list("1 1 1 1")),
		slices.Concat(slices.Repeat([]api.Rat{nothing}, 4), list("1 0"), slices.Repeat([]api.Rat{nothing}, 4)),
	} {
		c := api.Curve{Degree: 3, Knots: k}
		for range len(k) - 4 {
			c.Poles = append(c.Poles, quarter().Poles[1])
		}
		out = append(out, c)
	}
	return out
}

// wrongNumbered returns curves whose parts fit together, with numbers that are not
// valid. Some of these compare as equal to others that differ from them.
func wrongNumbered() []api.Curve {
	s := source(22)
	var out []api.Curve
	lists := []string{"0 0 0 1 3 3 3", "0 0 0 5 5 5 8 8 8", "0 0 0 0 5 5 5 8 8 8 8", "-5 -5 0 0 0 5 5", "0 0 1 2 3 4 4", "3 3 1 1"}
	for _, text := range lists {
		for _, r := range append(wrongNumbers(), api.Rat{Num: []uint32{10}, Den: []uint32{2}}, api.Rat{Num: []uint32{5, 0}}) {
			for n := range 6 {
				k := list(text)
				degree := 1
				for rational.Same(k[0], k[degree]) {
					degree++
				}
				degree--
				k[degree+1+s.below(max(1, len(k)-2*degree-2))] = r
				if n > 3 {
					k[s.below(len(k))] = r
				}
				c := s.withKnots(degree, values(list(text)), s.number)
				c.Knots = k
				if n%2 == 1 {
					*numbersOf(c)[len(k)+s.below(4*len(c.Poles))] = r
				}
				out = append(out, c)
			}
		}
	}
	return out
}

// invalidArguments returns those with curves that are not valid, and those with other
// numbers that are not.
func invalidArguments() []arguments {
	s := source(23)
	wrong := append(wrongNumbers(), api.Rat{})
	some := func() api.Rat {
		if s.below(3) > 0 {
			return rat(s.number())
		}
		return wrong[s.below(len(wrong))]
	}
	var out []arguments
	for _, c := range append(wrongCurves(), quarter(), wave(), fullCurves()[3]) {
		for _, d := range []api.Curve{quarter(), c} {
			m := s.affine()
			m.M[s.below(3)][s.below(3)], m.T[s.below(3)] = some(), some()
			l := []api.Rat{some(), some(), some()}
			out = append(out, argumentsOf(c, d, l, m, some), argumentsOf(d, c, l, m, some))
		}
	}
	for _, r := range wrong {
		for _, c := range append(curves()[:12], quarter(), wave()) {
			out = append(out, argumentsOf(c, c, []api.Rat{r, r, num("1/2"), r}, s.affine(), func() api.Rat { return r }))
		}
	}
	return out
}

// region is the memory of a list, from its first element to its capacity.
type region struct{ from, to uintptr }

func regionOf[T any](list []T) region {
	from := reflect.ValueOf(list).Pointer()
	return region{from, from + uintptr(cap(list))*reflect.TypeFor[T]().Size()}
}

// regions returns those of a list of numbers and of their limbs.
func regions(list []api.Rat) []region {
	out := []region{regionOf(list)}
	for _, r := range list {
		out = append(out, regionOf(r.Num), regionOf(r.Den))
	}
	return out
}

// regionsOf returns those of curves.
func regionsOf(all ...api.Curve) []region {
	var out []region
	for _, c := range all {
		out = append(out, regionOf(c.Knots), regionOf(c.Poles))
		for _, r := range numbersOf(c) {
			out = append(out, regionOf(r.Num), regionOf(r.Den))
		}
	}
	return out
}

// numbersIn returns the numbers of arguments that are not those of curves.
func numbersIn(x arguments) []api.Rat {
	return slices.Concat([]api.Rat{x.T, x.A, x.B}, x.M.M[0][:], x.M.M[1][:], x.M.M[2][:], x.M.T[:])
}

// shared reports whether two of the regions have common memory.
func shared(all []region) bool {
	all = slices.DeleteFunc(all, func(r region) bool { return r.from == r.to })
	slices.SortFunc(all, func(a, b region) int { return cmp.Compare(a.from, b.from) })
	for i := 1; i < len(all); i++ {
		if all[i].from < all[i-1].to {
			return true
		}
	}
	return false
}

// snapshot returns all of the arguments, with what lies behind their lists.
func snapshot(x arguments) string {
	text := fmt.Sprint(x)
	numbers := slices.Concat(numbersIn(x), x.L[:cap(x.L)])
	for _, c := range []api.Curve{x.C, x.D} {
		c.Knots, c.Poles = c.Knots[:cap(c.Knots)], c.Poles[:cap(c.Poles)]
		for _, r := range numbersOf(c) {
			numbers = append(numbers, *r)
		}
	}
	for _, r := range numbers {
		text += fmt.Sprint(r, r.Num[:cap(r.Num)], r.Den[:cap(r.Den)])
	}
	return text
}

// R1, R2: no function panics, modifies or retains its arguments, or returns lists
// that share memory, whether or not the arguments are valid.
func TestArgumentsStay(t *testing.T) {
	for _, x := range append(validArguments(), invalidArguments()...) {
		before := snapshot(x)
		// The list of numbersIn is none of the arguments: a result may get its memory.
		given := slices.Concat(regionsOf(x.C, x.D), regions(x.L), regions(numbersIn(x))[1:])
		for _, c := range calls() {
			out := c.of(x)
			if shared(slices.Concat(regionsOf(out.curves...), regions(out.numbers), given)) {
				t.Fatalf("%s: the result shares memory with arguments or with itself: %v", c.name, x)
			}
		}
		if snapshot(x) != before {
			t.Fatalf("a function modifies its arguments %v", x)
		}
	}
}

// R1: no function looks behind the end of a list.
func TestListsWithoutRoom(t *testing.T) {
	for _, x := range append(validArguments(), invalidArguments()...) {
		for _, c := range []*api.Curve{&x.C, &x.D} {
			c.Knots, c.Poles = slices.Clip(c.Knots), slices.Clip(c.Poles)
		}
		for _, c := range calls() {
			c.of(x)
		}
	}
}

// Where degree, knots and poles do not fit together, nothing is computed.
func TestWrongCurves(t *testing.T) {
	var all []api.Curve
	for _, f := range faults()[2:12] {
		c := wave()
		f.with(&c)
		all = append(all, c)
	}
	for _, degree := range []int{1, 3, math.MinInt, math.MinInt + 6, math.MaxInt, math.MaxInt - 6} {
		c := wave()
		c.Degree = degree
		all = append(all, c)
	}
	for _, c := range all {
		d := quarter()
		d.Degree = c.Degree
		for _, x := range []arguments{{C: c, D: after(c, d)}, {C: d, D: after(d, c)}} {
			got, e := curve.Join(x.C, x.D)
			expectError(t, "Join of "+showCurve(x.C)+" and "+showCurve(x.D), e, api.ErrArg)
			expectNothing(t, "Join", got)
		}
		for _, f := range calls() {
			switch f.name {
			case "Eval", "Insert", "Refine", "Refine with nothing", "Split", "Elevate":
				if out := f.of(arguments{C: c, T: num("1/2")}); out.e == api.OK {
					t.Errorf("%s of %s: no error", f.name, showCurve(c))
				}
			case "Pieces":
				if len(curve.Pieces(c)) > 0 {
					t.Errorf("Pieces of %s", showCurve(c))
				}
			}
		}
	}
}

// R1: long lists do not take long.
func TestLongLists(t *testing.T) {
	var long []api.Rat
	var poles []api.Pole
	for i := range 100000 {
		long = append(long, rational.Int(int64(i)))
		poles = append(poles, api.Pole{P: api.Point{long[i]}, W: num("1")})
	}
	for _, degree := range []int{1, api.MaxDegree, 1000, 49000, 99998, math.MaxInt} {
		c := api.Curve{Degree: degree, Knots: long, Poles: poles[:max(0, len(long)-degree-1)]}
		for _, f := range calls() {
			f.of(arguments{C: c, D: c, T: num("50000"), A: num("1"), B: num("2"), L: long})
			f.of(arguments{C: wave(), D: c, T: num("5/2"), A: num("1"), B: num("2"), L: slices.Repeat(long[1:3], 50000)})
		}
	}
}

// R2, R3: what is done to a result changes no later one.
func TestResultsAreNew(t *testing.T) {
	for _, x := range validArguments() {
		for _, c := range calls() {
			first := c.of(x)
			before := fmt.Sprint(first)
			for i := range first.curves {
				for _, r := range numbersOf(first.curves[i]) {
					clear(r.Num[:cap(r.Num)])
					clear(r.Den[:cap(r.Den)])
					*r = api.Rat{Neg: true}
				}
			}
			for i, r := range first.numbers {
				clear(r.Num[:cap(r.Num)])
				clear(r.Den[:cap(r.Den)])
				first.numbers[i] = api.Rat{Neg: true}
			}
			expectText(t, c.name, fmt.Sprint(c.of(x)), before)
		}
	}
}

// R2: a nil list and an empty one are equivalent.
func TestEmptyLists(t *testing.T) {
	with := func(x arguments, f func(list []uint32) []uint32) arguments {
		x = argumentsOf(x.C, x.D, x.L, x.M, func() api.Rat { return x.T })
		x.C, x.D = copyOf(x.C), copyOf(x.D)
		// Neighbours differ, so that equal ones are compared.
		for _, c := range []api.Curve{x.C, x.D} {
			for i, r := range numbersOf(c) {
				if i%2 == 0 {
					r.Num, r.Den = f(r.Num), f(r.Den)
				}
			}
		}
		x.T.Den, x.T.Num, x.M.T[0].Num, x.M.M[1][2].Den = f(x.T.Den), f(x.T.Num), f(x.M.T[0].Num), f(x.M.M[1][2].Den)
		return x
	}
	filled := func(list []uint32) []uint32 { return append([]uint32{}, list...) }
	bare := func(list []uint32) []uint32 { return append([]uint32(nil), list...) }
	for _, x := range validArguments() {
		for _, c := range calls() {
			expectText(t, c.name+" with empty lists", fmt.Sprint(c.of(with(x, filled))), fmt.Sprint(c.of(with(x, bare))))
		}
	}
	for _, c := range calls() {
		none := arguments{C: api.Curve{Degree: 1}}
		empty := arguments{C: api.Curve{Degree: 1, Knots: []api.Rat{}, Poles: []api.Pole{}}, L: []api.Rat{}}
		expectText(t, c.name+" of empty lists", fmt.Sprint(c.of(empty)), fmt.Sprint(c.of(none)))
	}
}

// R4, R6: numbers in results are valid, and there are none with an error.
func TestResultsAreValid(t *testing.T) {
	for _, x := range validArguments() {
		for _, c := range calls() {
			out := c.of(x)
			for _, d := range out.curves {
				for _, r := range numbersOf(d) {
					out.numbers = append(out.numbers, *r)
				}
				if out.e != api.OK {
					expectNothing(t, c.name, d)
				} else if e := curve.Check(d); e != api.OK && e != api.ErrSize {
					t.Fatalf("%s: Check of a result: error %d", c.name, e)
				}
			}
			for _, r := range out.numbers {
				if !rational.Valid(r) || out.e != api.OK && rational.Sign(r) != 0 {
					t.Fatalf("%s: %v with error %d", c.name, r, out.e)
				}
			}
		}
	}
}

// What is valid but for the lengths of numbers is computed with as usual.
func TestLongerThanValid(t *testing.T) {
	huge := rat(new(big.Rat).SetInt(new(big.Int).Lsh(big.NewInt(1), api.MaxBits+10)))
	c := quarter()
	c.Poles[1].P[2] = huge
	expectError(t, "Check", curve.Check(c), api.ErrSize)
	got, e := curve.Eval(c, num("1/2"))
	expectError(t, "Eval", e, api.OK)
	expectText(t, "Eval", showPoint(got), showPoint(modelOf(c).point(big.NewRat(1, 2))))
	for _, f := range calls() {
		x := arguments{C: c, D: curve.Mirror(c), T: num("1/3"), A: num("1"), B: num("2"), L: list("1/2 1/3")}
		if f.name == "Check" || f.name == "Insert at a knot" || f.name == "Split at a knot" || f.name == "Refine with knots" || f.name == "Affine in the other order" {
			continue
		}
		expectError(t, f.name, f.of(x).e, api.OK)
	}
}
