package knots_test

import (
	"cmp"
	"fmt"
	"math"
	"reflect"
	"slices"
	"testing"

	"brepkernel/api"
	"brepkernel/knots"
	"brepkernel/rational"
)

// arguments are those that the functions of the layer take.
type arguments struct {
	K       []api.Rat
	T, A, B api.Rat
	Degree  int
}

// result is what a function of the layer returns. What it does not return is zero.
type result struct {
	list   []api.Rat
	number int
	e      api.Errno
}

// call is a function of the layer.
type call struct {
	name string
	of   func(x arguments) result
}

func calls() []call {
	listed := func(k []api.Rat, e api.Errno) result { return result{list: k, e: e} }
	numbered := func(n int, e api.Errno) result { return result{number: n, e: e} }
	zero, one := api.Rat{}, rational.Int(1)
	return []call{
		{"Check", func(x arguments) result { return result{e: knots.Check(x.K, x.Degree)} }},
		{"Poles", func(x arguments) result { return numbered(knots.Poles(x.K, x.Degree), api.OK) }},
		{"Times", func(x arguments) result { return numbered(knots.Times(x.K, x.T), api.OK) }},
		{"Interval", func(x arguments) result { return numbered(knots.Interval(x.K, x.Degree, x.T)) }},
		{"Distinct", func(x arguments) result { return listed(knots.Distinct(x.K), api.OK) }},
		{"Insert", func(x arguments) result { return listed(knots.Insert(x.K, x.T), api.OK) }},
		{"Insert at the end", func(x arguments) result { return listed(knots.Insert(x.K, num("1e300")), api.OK) }},
		{"Insert at the beginning", func(x arguments) result { return listed(knots.Insert(x.K, num("-1e300")), api.OK) }},
		{"Greville", func(x arguments) result { return listed(knots.Greville(x.K, x.Degree), api.OK) }},
		{"Affine", func(x arguments) result { return listed(knots.Affine(x.K, x.A, x.B)) }},
		{"Affine from 0 to 1", func(x arguments) result { return listed(knots.Affine(x.K, zero, one)) }},
		{"Affine from 1 to 0", func(x arguments) result { return listed(knots.Affine(x.K, one, zero)) }},
		{"Mirror", func(x arguments) result { return listed(knots.Mirror(x.K), api.OK) }},
	}
}

// roomy returns a number with limbs behind it that are not its.
func roomy(r api.Rat) api.Rat {
	room := func(a []uint32) []uint32 { return append(slices.Clone(a), 11, 22, 33)[:len(a)] }
	return api.Rat{Neg: r.Neg, Num: room(r.Num), Den: room(r.Den)}
}

// argumentsOf returns arguments with memory of their own, and with more numbers behind
// the list that are not its.
func argumentsOf(k []api.Rat, degree int, next func() api.Rat) arguments {
	var list []api.Rat
	for _, r := range append(slices.Clone(k), num("77"), num("-7/9")) {
		list = append(list, roomy(r))
	}
	return arguments{K: list[:len(k)], T: roomy(next()), A: roomy(next()), B: roomy(next()), Degree: degree}
}

// validArguments returns those for which the functions are promised. T may be out of
// range.
func validArguments() []arguments {
	s := source(21)
	var out []arguments
	for _, v := range validKnots() {
		k := rats(v.knots)
		out = append(out, argumentsOf(k, v.degree, func() api.Rat { return rat(s.number()) }))
		out = append(out, argumentsOf(k, v.degree, func() api.Rat { return k[s.below(len(k))] }))
	}
	return out
}

// wrongNumbers returns some numbers that are not valid, and 0.
func wrongNumbers() []api.Rat {
	return []api.Rat{
		{}, {Neg: true}, {Num: []uint32{0}}, {Num: []uint32{5, 0, 0}}, {Den: []uint32{0}}, {Num: []uint32{1}, Den: []uint32{0}},
		{Num: []uint32{1}, Den: []uint32{0, 0, 0, 0}}, {Neg: true, Num: []uint32{0, 0, 0}, Den: []uint32{0, 0, 0}},
		{Num: []uint32{1}, Den: []uint32{1}}, {Den: []uint32{7}}, {Num: []uint32{6}, Den: []uint32{4}}, {Num: []uint32{0, 0, 6}, Den: []uint32{0, 4, 0}},
		{Num: []uint32{1, 2, 3, 0}, Den: []uint32{0, 0, 0, 0, 0}}, {Num: []uint32{0, 0, 0, 0, 0, 1, 0}, Den: []uint32{0, 0, 1, 0}},
	}
}

// invalidArguments returns those with lists that are not valid, with numbers that are
// not, and with degrees out of range.
func invalidArguments() []arguments {
	s := source(22)
	wrong := wrongNumbers()
	some := func() api.Rat {
		if s.below(3) > 0 {
			return rat(s.number())
		}
		return wrong[s.below(len(wrong))]
	}
	lists := [][]api.Rat{nil, {}}
	for _, k := range anyLists()[:30] {
		lists = append(lists, rats(k))
	}
	for _, r := range wrong {
		lists = append(lists, slices.Repeat([]api.Rat{r}, 1), slices.Repeat([]api.Rat{r}, 4), slices.Repeat([]api.Rat{r}, 15))
	}
	for n := range 20 {
		k := make([]api.Rat, n)
		for i := range k {
			k[i] = some()
		}
		lists = append(lists, k)
	}
	var out []arguments
	for _, k := range lists {
		for _, degree := range []int{-1, 0, 1, 2, 3, api.MaxDegree, api.MaxDegree + 1, 14, 100, math.MaxInt, math.MaxInt / 2, math.MinInt, math.MinInt + 1} {
			out = append(out, argumentsOf(k, degree, some))
		}
	}
	return out
}

// region is the memory of a list, from its first element to its capacity.
type region struct{ from, to uintptr }

func regionOf[T any](list []T) region {
	from := reflect.ValueOf(list).Pointer()
	return region{from, from + uintptr(cap(list))*reflect.TypeFor[T]().Size()}
}

// regions returns those of a list of numbers and of their limbs.
func regions(k []api.Rat) []region {
	out := []region{regionOf(k)}
	for _, r := range k {
		out = append(out, regionOf(r.Num), regionOf(r.Den))
	}
	return out
}

// shared reports whether two of the regions have common memory.
func shared(all []region) bool {
	all = slices.DeleteFunc(all, func(r region) bool { return r.from == r.to })
	slices.SortFunc(all, func(a, b region) int { return cmp.Compare(a.from, b.from) })
	for i := 1; i < len(all); i++ {
		if all[i].from < all[i-1].to {
			return true
		}
	}
	return false
}

// snapshot returns all of the arguments, with what lies behind their lists.
func snapshot(x arguments) string {
	text := fmt.Sprint(x)
	for _, r := range slices.Concat(x.K[:cap(x.K)], []api.Rat{x.T, x.A, x.B}) {
		text += fmt.Sprint(r, r.Num[:cap(r.Num)], r.Den[:cap(r.Den)])
	}
	return text
}

// R1, R2: no function panics, modifies or retains its arguments, or returns lists
// that share memory, whether or not the arguments are valid.
func TestArgumentsStay(t *testing.T) {
	for _, x := range append(validArguments(), invalidArguments()...) {
		before := snapshot(x)
		// The list of these three is none of the arguments: a result may get its memory.
		given := slices.Concat(regions(x.K), regions([]api.Rat{x.T, x.A, x.B})[1:])
		for _, c := range calls() {
			out := c.of(x)
			if snapshot(x) != before {
				t.Fatalf("%s modifies its arguments %v", c.name, x)
			}
			if shared(slices.Concat(regions(out.list), given)) {
				t.Fatalf("%s: the result shares memory with arguments or with itself: %v", c.name, x)
			}
		}
	}
}

// R1: long lists do not take long.
func TestLongLists(t *testing.T) {
	var long []api.Rat
	for i := range 100000 {
		long = append(long, rational.Int(int64(i/7)))
	}
	for _, degree := range []int{1, api.MaxDegree, 1000, 50000, 99998, math.MaxInt} {
		for _, c := range calls() {
			c.of(arguments{K: long, T: num("5000"), A: num("1/3"), B: num("2/3"), Degree: degree})
		}
	}
}

// R2, R3: what is done to a result changes no later one.
func TestResultsAreNew(t *testing.T) {
	for _, x := range validArguments() {
		for _, c := range calls() {
			first := c.of(x)
			before := fmt.Sprint(first)
			for i, r := range first.list {
				clear(r.Num[:cap(r.Num)])
				clear(r.Den[:cap(r.Den)])
				first.list[i] = api.Rat{Neg: true}
			}
			expectText(t, c.name, fmt.Sprint(c.of(x)), before)
		}
	}
}

// R2: a nil list and an empty one are equivalent.
func TestEmptyLists(t *testing.T) {
	filled := func(r api.Rat) api.Rat {
		return api.Rat{Neg: r.Neg, Num: append([]uint32{}, r.Num...), Den: append([]uint32{}, r.Den...)}
	}
	bare := func(r api.Rat) api.Rat {
		return api.Rat{Neg: r.Neg, Num: append([]uint32(nil), r.Num...), Den: append([]uint32(nil), r.Den...)}
	}
	with := func(x arguments, f func(r api.Rat) api.Rat) arguments {
		k := make([]api.Rat, len(x.K))
		for i, r := range x.K {
			// Neighbours are filled by turns, so that equal ones are compared.
			k[i] = bare(r)
			if i%2 == 0 {
				k[i] = f(r)
			}
		}
		return arguments{K: k, T: f(x.T), A: f(x.A), B: f(x.B), Degree: x.Degree}
	}
	for _, x := range validArguments() {
		for _, c := range calls() {
			expectText(t, c.name+" with empty lists", fmt.Sprint(c.of(with(x, filled))), fmt.Sprint(c.of(with(x, bare))))
		}
	}
	for _, c := range calls() {
		empty, none := c.of(arguments{K: []api.Rat{}, Degree: 1}), c.of(arguments{Degree: 1})
		expectText(t, c.name+" of an empty list", fmt.Sprint(empty), fmt.Sprint(none))
	}
}

// R4, R6: numbers in results are valid, and there are none with an error.
func TestResultsAreValid(t *testing.T) {
	for _, x := range validArguments() {
		for _, c := range calls() {
			out := c.of(x)
			if out.e != api.OK && (len(out.list) > 0 || out.number != 0) {
				t.Fatalf("%s: %v with error %d", c.name, out, out.e)
			}
			for _, r := range out.list {
				if !rational.Valid(r) {
					t.Fatalf("%s: %v", c.name, r)
				}
			}
		}
	}
}
