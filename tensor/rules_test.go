package tensor_test

import (
	"fmt"
	"math"
	"reflect"
	"slices"
	"testing"

	"brepkernel/api"
	"brepkernel/bernstein"
	"brepkernel/rational"
	"brepkernel/span"
	"brepkernel/tensor"
)

// arguments are some of each kind that the functions of the layer take.
type arguments struct {
	N, M api.Net
	R, T api.Rat
	U, V int
}

// call is a function of the layer: its results, the last of which may be an error.
type call struct {
	name string
	of   func(x arguments) []any
}

func calls() []call {
	all := func(results ...any) []any { return results }
	one, half := rational.Int(1), num("1/2")
	return []call{
		{"Valid", func(x arguments) []any { return all(tensor.Valid(x.N)) }},
		{"Eval", func(x arguments) []any { return all(tensor.Eval(x.N, x.R, x.T)) }},
		{"Eval at 0, 1", func(x arguments) []any { return all(tensor.Eval(x.N, api.Rat{}, one)) }},
		{"Row", func(x arguments) []any { return all(tensor.Row(x.N, x.T)) }},
		{"Row at 0", func(x arguments) []any { return all(tensor.Row(x.N, api.Rat{})) }},
		{"Column", func(x arguments) []any { return all(tensor.Column(x.N, x.T)) }},
		{"Column at 1", func(x arguments) []any { return all(tensor.Column(x.N, one)) }},
		{"PartU", func(x arguments) []any { return all(tensor.PartU(x.N, x.R, x.T)) }},
		{"PartU of all", func(x arguments) []any { return all(tensor.PartU(x.N, api.Rat{}, one)) }},
		{"PartU of a point", func(x arguments) []any { return all(tensor.PartU(x.N, half, half)) }},
		{"PartV", func(x arguments) []any { return all(tensor.PartV(x.N, x.R, x.T)) }},
		{"PartV of all", func(x arguments) []any { return all(tensor.PartV(x.N, api.Rat{}, one)) }},
		{"PartV from 1", func(x arguments) []any { return all(tensor.PartV(x.N, one, x.T)) }},
		{"DiffU", func(x arguments) []any { return all(tensor.DiffU(x.N)) }},
		{"DiffV", func(x arguments) []any { return all(tensor.DiffV(x.N)) }},
		{"Elevate", func(x arguments) []any { return two(tensor.Elevate(x.N, x.U, x.V)) }},
		{"Elevate by 0", func(x arguments) []any { return two(tensor.Elevate(x.N, x.N.U, x.N.V)) }},
		{"Elevate by 2, 1", func(x arguments) []any { return two(tensor.Elevate(x.N, x.N.U+2, x.N.V+1)) }},
		{"Add", func(x arguments) []any { return all(tensor.Add(x.N, x.M)) }},
		{"Add of 0", func(x arguments) []any { return all(tensor.Add(x.N, constant(0, 0, api.Rat{}))) }},
		{"Add of itself", func(x arguments) []any { return all(tensor.Add(x.N, x.N)) }},
		{"Sub", func(x arguments) []any { return all(tensor.Sub(x.N, x.M)) }},
		{"Sub of 0", func(x arguments) []any {
			return all(tensor.Sub(x.N, api.Net{U: x.N.U, V: x.N.V, C: make([]api.Rat, len(x.N.C))}))
		}},
		{"Mul", func(x arguments) []any { return two(tensor.Mul(x.N, x.M)) }},
		{"Mul by 1", func(x arguments) []any { return two(tensor.Mul(x.N, constant(0, 0, one))) }},
		{"Mul by itself", func(x arguments) []any { return two(tensor.Mul(x.N, x.N)) }},
		{"Scale", func(x arguments) []any { return all(tensor.Scale(x.R, x.N)) }},
		{"Scale by 1", func(x arguments) []any { return all(tensor.Scale(one, x.N)) }},
		{"Bounds", func(x arguments) []any { return all(tensor.Bounds(x.N)) }},
		{"Swap", func(x arguments) []any { return all(tensor.Swap(x.N)) }},
		{"Zero", func(x arguments) []any { return all(tensor.Zero(x.N)) }},
	}
}

func two[A, B any](a A, b B) []any {
	return []any{a, b}
}

// roomy returns a number with limbs behind it that are not its.
func roomy(r api.Rat) api.Rat {
	room := func(a []uint32) []uint32 { return append(slices.Clone(a), 11, 22, 33)[:len(a)] }
	return api.Rat{Neg: r.Neg, Num: room(r.Num), Den: room(r.Den)}
}

// roomyNet returns a net of these degrees with length coefficients, which are taken
// from next, and more behind them that are not its.
func roomyNet(u, v, length int, next func() api.Rat) api.Net {
	var c []api.Rat
	for range length + 2 {
		c = append(c, roomy(next()))
	}
	return api.Net{U: u, V: v, C: c[:length]}
}

// validArguments returns those with valid nets. U and V may be out of range.
func validArguments() []arguments {
	s := source(31)
	some := func(u, v int, next func() api.Rat) api.Net { return roomyNet(u, v, (u+1)*(v+1), next) }
	var out []arguments
	for i := range 60 {
		out = append(out, arguments{
			N: some(s.below(4), s.below(5), s.number), M: some(s.below(1+i%5), s.below(4), s.number),
			R: roomy(s.number()), T: roomy(s.number()), U: s.below(8) - 1, V: s.below(8) - 1,
		})
	}
	for _, d := range [][4]int{{api.MaxPoly, 1, 0, 3}, {2, api.MaxPoly, 2, 0}, {21, 3, 20, 3}, {20, 20, 20, 20}, {api.MaxPoly, api.MaxPoly, 1, 1}} {
		out = append(out, arguments{N: some(d[0], d[1], s.simple), M: some(d[2], d[3], s.simple), R: roomy(s.simple()), T: roomy(s.simple()), U: api.MaxPoly, V: api.MaxPoly})
	}
	return out
}

// wrongNumbers returns some numbers that are not valid, and 0.
func wrongNumbers() []api.Rat {
	return []api.Rat{
		{}, {Neg: true}, {Num: []uint32{0}}, {Num: []uint32{5, 0, 0}}, {Den: []uint32{0}}, {Num: []uint32{1}, Den: []uint32{0}},
		{Num: []uint32{1}, Den: []uint32{0, 0, 0, 0}}, {Neg: true, Num: []uint32{0, 0, 0}, Den: []uint32{0, 0, 0}},
		{Num: []uint32{1}, Den: []uint32{1}}, {Den: []uint32{7}}, {Num: []uint32{6}, Den: []uint32{4}}, {Num: []uint32{0, 0, 6}, Den: []uint32{0, 4, 0}},
		{Num: []uint32{1, 2, 3, 0}, Den: []uint32{0, 0, 0, 0, 0}}, {Num: []uint32{0, 0, 0, 0, 0, 1, 0}, Den: []uint32{0, 0, 1, 0}},
	}
}

// invalidArguments returns those with numbers that are not valid, with degrees out of
// range, and with other numbers of coefficients than the degrees say.
func invalidArguments() []arguments {
	s := source(32)
	var out []arguments
	add := func(n, m api.Net, next func() api.Rat, u, v int) {
		out = append(out, arguments{N: n, M: m, R: roomy(next()), T: roomy(next()), U: u, V: v})
	}
	wrong := wrongNumbers()
	for _, r := range wrong {
		next := func() api.Rat { return r }
		add(roomyNet(2, 1, 6, next), roomyNet(1, 3, 8, next), next, 3, 4)
	}
	some := func() api.Rat {
		if s.below(3) == 0 {
			return s.number()
		}
		return wrong[s.below(len(wrong))]
	}
	for range 60 {
		u, v := s.below(4), s.below(4)
		add(roomyNet(u, v, (u+1)*(v+1), some), roomyNet(v, u, (u+1)*(v+1), some), some, u+s.below(3), v+s.below(3))
	}
	fine := func() api.Net { return roomyNet(1, 1, 4, s.number) }
	for _, d := range [][2]int{
		{0, 0}, {1, 1}, {2, 3}, {-1, 0}, {0, -1}, {-1, -1}, {-2, -2}, {-3, -2}, {math.MinInt, 0}, {math.MinInt, math.MinInt}, {math.MaxInt, math.MaxInt},
		{math.MaxInt, 0}, {0, math.MaxInt}, {math.MaxInt, 1}, {-1, math.MaxInt}, {api.MaxPoly + 1, 0}, {0, api.MaxPoly + 1}, {api.MaxPoly + 1, api.MaxPoly + 1}, {99, 0},
	} {
		for _, length := range []int{0, 1, 2, 5, 42, 100, 42 * 42} {
			n := func() api.Net { return roomyNet(d[0], d[1], length, s.simple) }
			add(n(), fine(), s.number, math.MaxInt, math.MaxInt)
			add(fine(), n(), s.number, math.MinInt, 3)
			add(n(), n(), s.number, 3, 3)
		}
	}
	return out
}

// region is the memory of a list, from its first element to its capacity.
type region struct{ from, to uintptr }

// regions returns those of all lists in v, and of the lists in these.
func regions(v reflect.Value) []region {
	var out []region
	switch v.Kind() {
	case reflect.Struct:
		for i := range v.NumField() {
			out = append(out, regions(v.Field(i))...)
		}
	case reflect.Slice:
		size := v.Type().Elem().Size() * uintptr(v.Cap())
		out = append(out, region{v.Pointer(), v.Pointer() + size})
		for i := range v.Len() {
			out = append(out, regions(v.Index(i))...)
		}
	case reflect.Interface:
		out = regions(v.Elem())
	}
	return out
}

// shared reports whether two of the regions have common memory.
func shared(all []region) bool {
	all = slices.DeleteFunc(slices.Clone(all), func(r region) bool { return r.from == r.to })
	slices.SortFunc(all, func(a, b region) int { return int(a.from) - int(b.from) })
	for i := 1; i < len(all); i++ {
		if all[i].from < all[i-1].to {
			return true
		}
	}
	return false
}

// snapshot returns all of the arguments, with what lies behind their lists.
func snapshot(x arguments) []int {
	out := []int{x.U, x.V, x.N.U, x.N.V, len(x.N.C), x.M.U, x.M.V, len(x.M.C)}
	for _, r := range slices.Concat(x.N.C[:cap(x.N.C)], x.M.C[:cap(x.M.C)], []api.Rat{x.R, x.T}) {
		sign := 1
		if r.Neg {
			sign = -1
		}
		out = append(out, sign)
		for _, list := range [][]uint32{r.Num, r.Den} {
			out = append(out, len(list))
			for _, limb := range list[:cap(list)] {
				out = append(out, int(limb))
			}
		}
	}
	return out
}

// R1, R2: no function panics, modifies or retains its arguments, or returns lists
// that share memory, whether or not the arguments are valid.
func TestArgumentsStay(t *testing.T) {
	samples := append(validArguments(), invalidArguments()...)
	for _, c := range calls() {
		for _, x := range samples {
			before := snapshot(x)
			var results []region
			for _, v := range c.of(x) {
				results = append(results, regions(reflect.ValueOf(v))...)
			}
			if !slices.Equal(snapshot(x), before) {
				t.Fatalf("%s modifies its arguments %v", c.name, x)
			}
			if shared(append(results, regions(reflect.ValueOf(x))...)) {
				t.Fatalf("%s: a result shares memory with arguments or another result: %v", c.name, x)
			}
		}
	}
}

// R1: too many coefficients do not take long.
func TestLongNets(t *testing.T) {
	one := rational.Int(1)
	for _, d := range [][2]int{{100000, 0}, {0, 100000}, {300, 300}, {api.MaxPoly, api.MaxPoly}} {
		n := constant(300, 300, one)
		n.U, n.V = d[0], d[1]
		for _, c := range calls() {
			c.of(arguments{N: n, M: n, R: num("1/3"), T: num("2/3"), U: 7, V: 7})
		}
	}
}

// scribble writes over all limbs of v.
func scribble(v reflect.Value) {
	switch v.Kind() {
	case reflect.Struct:
		for i := range v.NumField() {
			scribble(v.Field(i))
		}
	case reflect.Slice:
		if list, ok := v.Interface().([]uint32); ok {
			for i := range list[:cap(list)] {
				list[:cap(list)][i] = 0xdead
			}
			return
		}
		for i := range v.Len() {
			scribble(v.Index(i))
		}
	}
}

// R2, R3: what is done to a result changes no later one.
func TestResultsAreNew(t *testing.T) {
	for _, c := range calls() {
		for _, x := range validArguments()[:30] {
			first := c.of(x)
			before := fmt.Sprint(first)
			for _, v := range first {
				scribble(reflect.ValueOf(v))
			}
			expectText(t, c.name, fmt.Sprint(c.of(x)), before)
		}
	}
}

// R2: a nil list and an empty one are equivalent.
func TestEmptyLists(t *testing.T) {
	fill := func(c ...api.Rat) []api.Rat {
		out := make([]api.Rat, len(c))
		for i, r := range c {
			out[i] = api.Rat{Neg: r.Neg, Num: append([]uint32{}, r.Num...), Den: append([]uint32{}, r.Den...)}
		}
		return out
	}
	for _, c := range calls() {
		for _, x := range validArguments()[:30] {
			filled := x
			filled.N.C, filled.M.C = fill(x.N.C...), fill(x.M.C...)
			filled.R, filled.T = fill(x.R)[0], fill(x.T)[0]
			expectText(t, c.name+" with empty lists", fmt.Sprint(c.of(filled)), fmt.Sprint(c.of(x)))
		}
	}
	if tensor.Valid(api.Net{C: []api.Rat{}}) || tensor.Valid(api.Net{}) {
		t.Errorf("Valid of no coefficients is true")
	}
}

// R4, R6: nets, polynomials and numbers in results are valid, and there are none with
// an error.
func TestResultsAreValid(t *testing.T) {
	for _, c := range calls() {
		for _, x := range validArguments() {
			out := c.of(x)
			e, failed := out[len(out)-1].(api.Errno)
			failed = failed && e != api.OK
			for _, v := range out {
				switch v := v.(type) {
				case api.Net:
					if failed && (v.U != 0 || v.V != 0 || len(v.C) != 0) || !failed && !tensor.Valid(v) {
						t.Fatalf("%s: %v with error %d", c.name, v, e)
					}
				case api.Poly:
					if !bernstein.Valid(v) {
						t.Fatalf("%s: %v", c.name, v)
					}
				case api.Rat:
					if !rational.Valid(v) {
						t.Fatalf("%s: %v", c.name, v)
					}
				case api.Span:
					if !span.Valid(v) {
						t.Fatalf("%s: %v", c.name, v)
					}
				}
			}
		}
	}
}
