package vector_test

import (
	"fmt"
	"reflect"
	"slices"
	"testing"

	"brepkernel/api"
	"brepkernel/rational"
	"brepkernel/vector"
)

// arguments are some of each kind that the functions of the layer take.
type arguments struct {
	P    [4]api.Point
	R    api.Rat
	Q    [2]api.Plane
	M    [2]api.Map
	B    [2]api.Box
	List []api.Point
}

// call is a function of the layer: its results, the last of which may be an error.
type call struct {
	name string
	of   func(x arguments) []any
}

func calls() []call {
	all := func(results ...any) []any { return results }
	return []call{
		{"Same", func(x arguments) []any { return all(vector.Same(x.P[0], x.P[1])) }},
		{"Zero", func(x arguments) []any { return all(vector.Zero(x.P[0])) }},
		{"Add", func(x arguments) []any { return all(vector.Add(x.P[0], x.P[1])) }},
		{"Add of one", func(x arguments) []any { return all(vector.Add(x.P[0], api.Point{})) }},
		{"Sub", func(x arguments) []any { return all(vector.Sub(x.P[0], x.P[1])) }},
		{"Sub of one", func(x arguments) []any { return all(vector.Sub(x.P[0], api.Point{})) }},
		{"Scale", func(x arguments) []any { return all(vector.Scale(x.R, x.P[0])) }},
		{"Scale by 1", func(x arguments) []any { return all(vector.Scale(rational.Int(1), x.P[0])) }},
		{"Dot", func(x arguments) []any { return all(vector.Dot(x.P[0], x.P[1])) }},
		{"Cross", func(x arguments) []any { return all(vector.Cross(x.P[0], x.P[1])) }},
		{"Det", func(x arguments) []any { return all(vector.Det(x.P[0], x.P[1], x.P[2])) }},
		{"Orient2", func(x arguments) []any { return all(vector.Orient2(x.P[0], x.P[1], x.P[2])) }},
		{"Orient3", func(x arguments) []any { return all(vector.Orient3(x.P[0], x.P[1], x.P[2], x.P[3])) }},
		{"Through", func(x arguments) []any { return withError(vector.Through(x.P[0], x.P[1], x.P[2])) }},
		{"Side", func(x arguments) []any { return all(vector.Side(x.Q[0], x.P[0])) }},
		{"SamePlane", func(x arguments) []any { return all(vector.SamePlane(x.Q[0], x.Q[1])) }},
		{"Identity", func(x arguments) []any { return all(vector.Identity()) }},
		{"Apply", func(x arguments) []any { return all(vector.Apply(x.M[0], x.P[0])) }},
		{"Turn", func(x arguments) []any { return all(vector.Turn(x.M[0], x.P[0])) }},
		{"Compose", func(x arguments) []any { return all(vector.Compose(x.M[0], x.M[1])) }},
		{"Compose of one", func(x arguments) []any { return all(vector.Compose(x.M[0], vector.Identity())) }},
		{"Inverse", func(x arguments) []any { return withError(vector.Inverse(x.M[0])) }},
		{"Volume", func(x arguments) []any { return all(vector.Volume(x.M[0])) }},
		{"BoxOf", func(x arguments) []any { return withError(vector.BoxOf(x.List)) }},
		{"BoxOf of one", func(x arguments) []any { return withError(vector.BoxOf(x.List[:1])) }},
		{"BoxOf of none", func(x arguments) []any { return withError(vector.BoxOf(x.List[:0])) }},
		{"Meets", func(x arguments) []any { return all(vector.Meets(x.B[0], x.B[1])) }},
		{"Segment", func(x arguments) []any { return all(vector.Segment(x.P[0], x.P[1], x.P[2])) }},
		{"Segment of a point", func(x arguments) []any { return all(vector.Segment(x.P[0], x.P[0], x.P[2])) }},
	}
}

func withError[R any](result R, e api.Errno) []any {
	return []any{result, e}
}

// argumentsOf returns arguments whose numbers are taken from next, each in limbs
// with others behind them that are not theirs.
func argumentsOf(next func() api.Rat) arguments {
	room := func(a []uint32) []uint32 { return append(slices.Clone(a), 11, 22, 33)[:len(a)] }
	roomy := func() api.Rat {
		r := next()
		return api.Rat{Neg: r.Neg, Num: room(r.Num), Den: room(r.Den)}
	}
	point := func() api.Point { return api.Point{roomy(), roomy(), roomy()} }
	side := func() api.Span { return api.Span{Lo: roomy(), Hi: roomy()} }
	x := arguments{R: roomy(), List: []api.Point{point(), point(), point(), point()}[:3]}
	for i := range x.P {
		x.P[i] = point()
	}
	for i := range 2 {
		x.Q[i] = api.Plane{N: point(), D: roomy()}
		x.M[i] = api.Map{M: [3]api.Point{point(), point(), point()}, T: point()}
		x.B[i] = api.Box{side(), side(), side()}
	}
	return x
}

// validArguments returns those whose numbers are valid. Each second one has many
// equal points.
func validArguments() []arguments {
	s := source(16)
	var out []arguments
	for i := range 60 {
		x := argumentsOf(s.number)
		if i%2 == 0 {
			x.P[2], x.P[3], x.M[0].M[1], x.List[1] = x.P[1], x.P[1], x.M[0].M[0], x.List[0]
		}
		out = append(out, x)
	}
	return out
}

// invalidArguments returns those with numbers, spans and planes that are not.
func invalidArguments() []arguments {
	wrong := []api.Rat{
		{}, {Neg: true}, {Num: []uint32{0}}, {Num: []uint32{5, 0, 0}}, {Den: []uint32{0}}, {Num: []uint32{1}, Den: []uint32{0}},
		{Num: []uint32{1}, Den: []uint32{0, 0, 0, 0}}, {Neg: true, Num: []uint32{0, 0, 0}, Den: []uint32{0, 0, 0}},
		{Num: []uint32{3}, Den: []uint32{1}}, {Den: []uint32{7}}, {Num: []uint32{6}, Den: []uint32{4}}, {Num: []uint32{0, 0, 6}, Den: []uint32{0, 4, 0}},
		{Num: []uint32{1, 2, 3, 0}, Den: []uint32{0, 0, 0, 0, 0}}, {Num: []uint32{0, 0, 0, 0, 0, 1, 0}, Den: []uint32{0, 0, 1, 0}},
	}
	s := source(17)
	var out []arguments
	for _, r := range wrong {
		out = append(out, argumentsOf(func() api.Rat { return r }))
	}
	for range 100 {
		out = append(out, argumentsOf(func() api.Rat {
			if s.below(3) == 0 {
				return s.number()
			}
			return wrong[s.below(len(wrong))]
		}))
	}
	return out
}

// each calls f with each value of the type T that is a part of v.
func each[T any](v any, f func(T)) {
	var walk func(v reflect.Value)
	walk = func(v reflect.Value) {
		if part, ok := v.Interface().(T); ok {
			f(part)
			return
		}
		switch v.Kind() {
		case reflect.Struct:
			for i := range v.NumField() {
				walk(v.Field(i))
			}
		case reflect.Array, reflect.Slice:
			for i := range v.Len() {
				walk(v.Index(i))
			}
		case reflect.Interface:
			walk(v.Elem())
		}
	}
	walk(reflect.ValueOf(v))
}

// lists returns the lists of limbs in v.
func lists(v any) [][]uint32 {
	var out [][]uint32
	each(v, func(list []uint32) { out = append(out, list) })
	return out
}

// copies returns copies of lists with the limbs behind them.
func copies(all [][]uint32) [][]uint32 {
	var out [][]uint32
	for _, list := range all {
		out = append(out, slices.Clone(list[:cap(list)]))
	}
	return out
}

func equalLists(a, b [][]uint32) bool {
	return slices.EqualFunc(a, b, slices.Equal)
}

func scribble(list []uint32) {
	for i := range list[:cap(list)] {
		list[:cap(list)][i] = 0xdead
	}
}

// R1, R2: no function panics, modifies or retains its arguments, or returns lists
// that share memory, whether or not the arguments are valid.
func TestArgumentsStay(t *testing.T) {
	for _, c := range calls() {
		for _, x := range append(validArguments(), invalidArguments()...) {
			points, limbs := fmt.Sprint(x.List[:cap(x.List)]), copies(lists(x))
			out := c.of(x)
			if fmt.Sprint(x.List[:cap(x.List)]) != points || !equalLists(copies(lists(x)), limbs) {
				t.Fatalf("%s modifies its arguments %v", c.name, x)
			}
			result := fmt.Sprint(out)
			for _, list := range lists(x) {
				scribble(list)
			}
			if fmt.Sprint(out) != result {
				t.Fatalf("%s returns memory of its arguments", c.name)
			}
			checkShared(t, c.name, out)
		}
	}
}

// checkShared finds lists in a result that share memory.
func checkShared(t *testing.T, name string, out []any) {
	t.Helper()
	before := copies(lists(out))
	for i, list := range lists(out) {
		if !slices.Equal(list[:cap(list)], before[i]) {
			t.Fatalf("%s: results share memory", name)
		}
		scribble(list)
	}
}

// R2, R3: what is done to a result changes no later one.
func TestResultsAreNew(t *testing.T) {
	for _, c := range calls() {
		for _, x := range validArguments() {
			first := c.of(x)
			before := fmt.Sprint(first)
			for _, list := range lists(first) {
				scribble(list)
			}
			expect(t, c.name, fmt.Sprint(c.of(x)), before)
		}
	}
}

// R4, R6: the numbers in results are valid, and zero with an error.
func TestResultsAreValid(t *testing.T) {
	for _, c := range calls() {
		for _, x := range validArguments() {
			out := c.of(x)
			e, failed := out[len(out)-1].(api.Errno)
			failed = failed && e != api.OK
			each(out, func(r api.Rat) {
				if !rational.Valid(r) || failed && rational.Sign(r) != 0 {
					t.Fatalf("%s: %v with error %d", c.name, r, e)
				}
			})
		}
	}
}
