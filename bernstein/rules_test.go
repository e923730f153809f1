package bernstein_test

import (
	"fmt"
	"math"
	"reflect"
	"slices"
	"testing"

	"brepkernel/api"
	"brepkernel/bernstein"
	"brepkernel/rational"
	"brepkernel/span"
)

// arguments are some of each kind that the functions of the layer take.
type arguments struct {
	P, Q api.Poly
	R, T api.Rat
	N    int
}

// call is a function of the layer: its results, the last of which may be an error.
type call struct {
	name string
	of   func(x arguments) []any
}

func calls() []call {
	all := func(results ...any) []any { return results }
	one, half := rational.Int(1), num("1/2")
	return []call{
		{"Valid", func(x arguments) []any { return all(bernstein.Valid(x.P)) }},
		{"Eval", func(x arguments) []any { return all(bernstein.Eval(x.P, x.T)) }},
		{"Eval at 0", func(x arguments) []any { return all(bernstein.Eval(x.P, api.Rat{})) }},
		{"Eval at 1", func(x arguments) []any { return all(bernstein.Eval(x.P, one)) }},
		{"Split", func(x arguments) []any { return two(bernstein.Split(x.P, x.T)) }},
		{"Split at 0", func(x arguments) []any { return two(bernstein.Split(x.P, api.Rat{})) }},
		{"Split at 1", func(x arguments) []any { return two(bernstein.Split(x.P, one)) }},
		{"Part", func(x arguments) []any { return all(bernstein.Part(x.P, x.R, x.T)) }},
		{"Part of all", func(x arguments) []any { return all(bernstein.Part(x.P, api.Rat{}, one)) }},
		{"Part from 1", func(x arguments) []any { return all(bernstein.Part(x.P, one, x.T)) }},
		{"Part of a point", func(x arguments) []any { return all(bernstein.Part(x.P, half, half)) }},
		{"Elevate", func(x arguments) []any { return two(bernstein.Elevate(x.P, x.N)) }},
		{"Elevate by 0", func(x arguments) []any { return two(bernstein.Elevate(x.P, len(x.P)-1)) }},
		{"Elevate by 2", func(x arguments) []any { return two(bernstein.Elevate(x.P, len(x.P)+1)) }},
		{"Add", func(x arguments) []any { return all(bernstein.Add(x.P, x.Q)) }},
		{"Add of 0", func(x arguments) []any { return all(bernstein.Add(x.P, api.Poly{{}})) }},
		{"Add of itself", func(x arguments) []any { return all(bernstein.Add(x.P, x.P)) }},
		{"Sub", func(x arguments) []any { return all(bernstein.Sub(x.P, x.Q)) }},
		{"Sub of 0", func(x arguments) []any { return all(bernstein.Sub(x.P, make(api.Poly, len(x.P)))) }},
		{"Mul", func(x arguments) []any { return two(bernstein.Mul(x.P, x.Q)) }},
		{"Mul by 1", func(x arguments) []any { return two(bernstein.Mul(x.P, api.Poly{one})) }},
		{"Scale", func(x arguments) []any { return all(bernstein.Scale(x.R, x.P)) }},
		{"Scale by 1", func(x arguments) []any { return all(bernstein.Scale(one, x.P)) }},
		{"Diff", func(x arguments) []any { return all(bernstein.Diff(x.P)) }},
		{"Bounds", func(x arguments) []any { return all(bernstein.Bounds(x.P)) }},
		{"Variations", func(x arguments) []any { return all(bernstein.Variations(x.P)) }},
		{"ToPowers", func(x arguments) []any { return all(bernstein.ToPowers(x.P)) }},
		{"FromPowers", func(x arguments) []any { return two(bernstein.FromPowers(x.P)) }},
		{"Trim", func(x arguments) []any { return all(bernstein.Trim(x.P)) }},
		{"Same", func(x arguments) []any { return all(bernstein.Same(x.P, x.Q)) }},
		{"Zero", func(x arguments) []any { return all(bernstein.Zero(x.P)) }},
	}
}

func two[A, B any](a A, b B) []any {
	return []any{a, b}
}

// argumentsOf returns arguments of these lengths whose numbers are taken from
// next. All lists have elements behind them that are not theirs.
func argumentsOf(lengthP, lengthQ, n int, next func() api.Rat) arguments {
	room := func(a []uint32) []uint32 { return append(slices.Clone(a), 11, 22, 33)[:len(a)] }
	roomy := func() api.Rat {
		r := next()
		return api.Rat{Neg: r.Neg, Num: room(r.Num), Den: room(r.Den)}
	}
	list := func(length int) api.Poly {
		var out api.Poly
		for range length + 2 {
			out = append(out, roomy())
		}
		return out[:length]
	}
	return arguments{P: list(lengthP), Q: list(lengthQ), R: roomy(), T: roomy(), N: n}
}

// validArguments returns those with valid polynomials. N may be out of range.
func validArguments() []arguments {
	s := source(31)
	var out []arguments
	for i := range 60 {
		out = append(out, argumentsOf(1+s.below(8), 1+s.below(1+i%8), s.below(12)-1, s.number))
	}
	for _, lengths := range [][2]int{{1, 1}, {41, 1}, {1, 41}, {41, 41}, {40, 2}, {21, 22}} {
		out = append(out, argumentsOf(lengths[0], lengths[1], 40, s.number))
	}
	return out
}

// invalidArguments returns those with numbers that are not valid, and those with
// no coefficients or too many of them.
func invalidArguments() []arguments {
	wrong := []api.Rat{
		{}, {Neg: true}, {Num: []uint32{0}}, {Num: []uint32{5, 0, 0}}, {Den: []uint32{0}}, {Num: []uint32{1}, Den: []uint32{0}},
		{Num: []uint32{1}, Den: []uint32{0, 0, 0, 0}}, {Neg: true, Num: []uint32{0, 0, 0}, Den: []uint32{0, 0, 0}},
		{Num: []uint32{1}, Den: []uint32{1}}, {Den: []uint32{7}}, {Num: []uint32{6}, Den: []uint32{4}}, {Num: []uint32{0, 0, 6}, Den: []uint32{0, 4, 0}},
		{Num: []uint32{1, 2, 3, 0}, Den: []uint32{0, 0, 0, 0, 0}}, {Num: []uint32{0, 0, 0, 0, 0, 1, 0}, Den: []uint32{0, 0, 1, 0}},
	}
	s := source(32)
	some := func() api.Rat {
		if s.below(3) == 0 {
			return s.number()
		}
		return wrong[s.below(len(wrong))]
	}
	var out []arguments
	for _, r := range wrong {
		out = append(out, argumentsOf(4, 3, 5, func() api.Rat { return r }))
	}
	for i := range 60 {
		out = append(out, argumentsOf(s.below(7), s.below(7), 7-i, some))
	}
	lengths := []int{0, 1, 3, api.MaxPoly + 1, api.MaxPoly + 2, 100}
	for _, p := range lengths {
		for _, q := range lengths {
			for _, n := range []int{math.MinInt, -1, 0, api.MaxPoly, p + 2, math.MaxInt} {
				out = append(out, argumentsOf(p, q, n, s.number))
			}
		}
	}
	return out
}

// region is the memory of a list, from its first element to its capacity.
type region struct{ from, to uintptr }

// regions returns those of all lists in v, and of the lists in these.
func regions(v reflect.Value) []region {
	var out []region
	switch v.Kind() {
	case reflect.Struct:
		for i := range v.NumField() {
			out = append(out, regions(v.Field(i))...)
		}
	case reflect.Slice:
		size := v.Type().Elem().Size() * uintptr(v.Cap())
		out = append(out, region{v.Pointer(), v.Pointer() + size})
		for i := range v.Len() {
			out = append(out, regions(v.Index(i))...)
		}
	case reflect.Interface:
		out = regions(v.Elem())
	}
	return out
}

// shared reports whether two of the regions have common memory.
func shared(all []region) bool {
	all = slices.DeleteFunc(slices.Clone(all), func(r region) bool { return r.from == r.to })
	slices.SortFunc(all, func(a, b region) int { return int(a.from) - int(b.from) })
	for i := 1; i < len(all); i++ {
		if all[i].from < all[i-1].to {
			return true
		}
	}
	return false
}

// snapshot returns all of the arguments, with what lies behind their lists.
func snapshot(x arguments) []int {
	out := []int{x.N, len(x.P), len(x.Q)}
	for _, r := range slices.Concat(x.P[:cap(x.P)], x.Q[:cap(x.Q)], []api.Rat{x.R, x.T}) {
		sign := 1
		if r.Neg {
			sign = -1
		}
		out = append(out, sign)
		for _, list := range [][]uint32{r.Num, r.Den} {
			out = append(out, len(list))
			for _, limb := range list[:cap(list)] {
				out = append(out, int(limb))
			}
		}
	}
	return out
}

// R1, R2: no function panics, modifies or retains its arguments, or returns lists
// that share memory, whether or not the arguments are valid.
func TestArgumentsStay(t *testing.T) {
	samples := append(validArguments(), invalidArguments()...)
	for _, c := range calls() {
		for _, x := range samples {
			before := snapshot(x)
			var results []region
			for _, v := range c.of(x) {
				results = append(results, regions(reflect.ValueOf(v))...)
			}
			if !slices.Equal(snapshot(x), before) {
				t.Fatalf("%s modifies its arguments %v", c.name, x)
			}
			if shared(append(results, regions(reflect.ValueOf(x))...)) {
				t.Fatalf("%s: a result shares memory with arguments or another result: %v", c.name, x)
			}
		}
	}
}

// R1: too many coefficients do not take long.
func TestLongLists(t *testing.T) {
	one := rational.Int(1)
	long := arguments{P: constant(100000, one), Q: constant(100000, one), R: num("1/3"), T: num("2/3"), N: 7}
	for _, c := range calls() {
		c.of(long)
	}
}

// scribble writes over all limbs of v.
func scribble(v reflect.Value) {
	switch v.Kind() {
	case reflect.Struct:
		for i := range v.NumField() {
			scribble(v.Field(i))
		}
	case reflect.Slice:
		if list, ok := v.Interface().([]uint32); ok {
			for i := range list[:cap(list)] {
				list[:cap(list)][i] = 0xdead
			}
			return
		}
		for i := range v.Len() {
			scribble(v.Index(i))
		}
	}
}

// R2, R3: what is done to a result changes no later one.
func TestResultsAreNew(t *testing.T) {
	for _, c := range calls() {
		for _, x := range validArguments()[:30] {
			first := c.of(x)
			before := fmt.Sprint(first)
			for _, v := range first {
				scribble(reflect.ValueOf(v))
			}
			expectText(t, c.name, fmt.Sprint(c.of(x)), before)
		}
	}
}

// R2: a nil list and an empty one are equivalent.
func TestEmptyLists(t *testing.T) {
	fill := func(p api.Poly) api.Poly {
		out := make(api.Poly, len(p))
		for i, r := range p {
			out[i] = api.Rat{Neg: r.Neg, Num: append([]uint32{}, r.Num...), Den: append([]uint32{}, r.Den...)}
		}
		return out
	}
	for _, c := range calls() {
		for _, x := range validArguments()[:30] {
			ends := fill(api.Poly{x.R, x.T})
			filled := arguments{P: fill(x.P), Q: fill(x.Q), R: ends[0], T: ends[1], N: x.N}
			expectText(t, c.name+" with empty lists", fmt.Sprint(c.of(filled)), fmt.Sprint(c.of(x)))
		}
	}
}

// R4, R6: polynomials and numbers in results are valid, and there are none with an
// error.
func TestResultsAreValid(t *testing.T) {
	for _, c := range calls() {
		for _, x := range validArguments() {
			out := c.of(x)
			e, failed := out[len(out)-1].(api.Errno)
			failed = failed && e != api.OK
			for _, v := range out {
				switch v := v.(type) {
				case api.Poly:
					if failed != (len(v) == 0) || !failed && !bernstein.Valid(v) {
						t.Fatalf("%s: %v with error %d", c.name, v, e)
					}
				case []api.Rat:
					if !bernstein.Valid(v) {
						t.Fatalf("%s: %v", c.name, v)
					}
				case api.Rat:
					if !rational.Valid(v) {
						t.Fatalf("%s: %v", c.name, v)
					}
				case api.Span:
					if !span.Valid(v) {
						t.Fatalf("%s: %v", c.name, v)
					}
				}
			}
		}
	}
}
