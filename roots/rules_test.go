package roots_test

import (
	"fmt"
	"reflect"
	"slices"
	"testing"

	"brepkernel/api"
	"brepkernel/bernstein"
	"brepkernel/rational"
	"brepkernel/roots"
)

// arguments are some of each kind that the functions of the layer take.
type arguments struct {
	P, Q api.Poly
	A, B api.Rat
	R    api.Root
}

// call is a function of the layer: its results, the last of which may be an error.
type call struct {
	name string
	of   func(x arguments) []any
}

func calls() []call {
	return []call{
		{"Divide", func(x arguments) []any { return three(roots.Divide(x.P, x.Q)) }},
		{"Divide by itself", func(x arguments) []any { return three(roots.Divide(x.P, x.P)) }},
		{"Divide by 1", func(x arguments) []any { return three(roots.Divide(x.P, product())) }},
		{"Gcd", func(x arguments) []any { return []any{roots.Gcd(x.P, x.Q)} }},
		{"Gcd with itself", func(x arguments) []any { return []any{roots.Gcd(x.P, x.P)} }},
		{"Gcd with 0", func(x arguments) []any { return []any{roots.Gcd(x.P, api.Poly{{}})} }},
		{"SquareFree", func(x arguments) []any { return two(roots.SquareFree(x.P)) }},
		{"Sturm", func(x arguments) []any { return two(roots.Sturm(x.P)) }},
		{"Count", func(x arguments) []any { return two(roots.Count(x.P, x.A, x.B)) }},
		{"Isolate", func(x arguments) []any { return two(roots.Isolate(x.P)) }},
		{"Refine", func(x arguments) []any { return two(roots.Refine(x.P, x.R, x.B)) }},
		{"Refine of what it has", func(x arguments) []any { return two(roots.Refine(x.P, x.R, rational.Int(2))) }},
		{"SignAt", func(x arguments) []any { return two(roots.SignAt(x.P, x.R, x.Q)) }},
		{"SignAt of itself", func(x arguments) []any { return two(roots.SignAt(x.P, x.R, x.P)) }},
	}
}

func two[A, B any](a A, b B) []any {
	return []any{a, b}
}

func three[A, B, C any](a A, b B, c C) []any {
	return []any{a, b, c}
}

// roomy returns a number with limbs behind it that are not its.
func roomy(r api.Rat) api.Rat {
	room := func(a []uint32) []uint32 { return append(slices.Clone(a), 11, 22, 33)[:len(a)] }
	return api.Rat{Neg: r.Neg, Num: room(r.Num), Den: room(r.Den)}
}

// roomyPoly returns a polynomial with coefficients behind it that are not its.
func roomyPoly(p api.Poly) api.Poly {
	var out api.Poly
	for _, r := range append(slices.Clone(p), num("5"), num("1/7")) {
		out = append(out, roomy(r))
	}
	return out[:len(p)]
}

func argumentsOf(p, q api.Poly, a, b api.Rat, r api.Root) arguments {
	r.In = api.Span{Lo: roomy(r.In.Lo), Hi: roomy(r.In.Hi)}
	return arguments{P: roomyPoly(p), Q: roomyPoly(q), A: roomy(a), B: roomy(b), R: r}
}

// validArguments returns those with valid polynomials. Some of the roots do not fit,
// and some of the numbers are out of range.
func validArguments() []arguments {
	s := source(31)
	l := append(s.someFactors(10, 6), poly("0"), poly("3"), poly("0 0 0"), s.other(12), power(poly("-1 2"), api.MaxPoly))
	var out []arguments
	for _, p := range l {
		q := s.poly(s.below(6))
		out = append(out, argumentsOf(p, q, s.end(), s.end(), api.Root{In: span("0 1"), Times: 1}))
		if bernstein.Zero(p) {
			continue
		}
		for _, r := range someRoots(p) {
			out = append(out, argumentsOf(p, q, rational.Int(-2), num("1/9"), r))
		}
	}
	return out
}

// invalidArguments returns those with numbers that are not valid, and those with no
// coefficients or too many of them.
func invalidArguments() []arguments {
	wrong := []api.Rat{
		{}, {Neg: true}, {Num: []uint32{0}}, {Num: []uint32{5, 0, 0}}, {Den: []uint32{0}}, {Num: []uint32{1}, Den: []uint32{0}},
		{Num: []uint32{1}, Den: []uint32{0, 0, 0, 0}}, {Neg: true, Num: []uint32{0, 0, 0}, Den: []uint32{0, 0, 0}},
		{Num: []uint32{1}, Den: []uint32{1}}, {Den: []uint32{7}}, {Num: []uint32{6}, Den: []uint32{4}}, {Num: []uint32{0, 0, 6}, Den: []uint32{0, 4, 0}},
		{Num: []uint32{1, 2, 3, 0}, Den: []uint32{0, 0, 0, 0, 0}}, {Num: []uint32{0, 0, 0, 0, 0, 1, 0}, Den: []uint32{0, 0, 1, 0}},
	}
	s := source(32)
	p, one := poly("-1/2 0 1"), rational.Int(1)
	var out []arguments
	for _, r := range wrong {
		out = append(out,
			argumentsOf(api.Poly{r, r, r}, api.Poly{r, r}, r, r, api.Root{In: api.Span{Lo: r, Hi: r}}),
			argumentsOf(p, api.Poly{one, r}, api.Rat{}, one, api.Root{In: span("0 1")}),
			argumentsOf(api.Poly{rational.Neg(one), r, one}, p, api.Rat{}, one, api.Root{In: span("0 1")}),
			argumentsOf(p, p, r, one, api.Root{In: api.Span{Lo: r, Hi: one}}),
			argumentsOf(p, p, api.Rat{}, r, api.Root{In: api.Span{Hi: r}}),
			argumentsOf(p, p, api.Rat{}, r, api.Root{In: span("0 1")}))
	}
	some := func(n int) api.Poly {
		out := s.poly(max(0, n-1))[:n]
		for i := range out {
			if s.below(3) == 0 {
				out[i] = wrong[s.below(len(wrong))]
			}
		}
		return out
	}
	for range 60 {
		ends := some(4)
		out = append(out, argumentsOf(some(s.below(7)), some(s.below(7)), ends[0], ends[1], api.Root{In: api.Span{Lo: ends[2], Hi: ends[3]}}))
	}
	for _, n := range []int{0, 1, api.MaxPoly + 1, api.MaxPoly + 2, 100000} {
		for _, m := range []int{0, 1, api.MaxPoly + 1, api.MaxPoly + 2, 1000} {
			long := make(api.Poly, n+m)
			for i := range long {
				long[i] = rational.Int(int64(i%5) - 2)
			}
			out = append(out, argumentsOf(long[:n], long[:m], api.Rat{}, one, api.Root{In: span("0 1")}))
		}
	}
	return out
}

// region is the memory of a list, from its first element to its capacity.
type region struct{ from, to uintptr }

// regions returns those of all lists in v, and of the lists in these.
func regions(v reflect.Value) []region {
	var out []region
	switch v.Kind() {
	case reflect.Struct:
		for i := range v.NumField() {
			out = append(out, regions(v.Field(i))...)
		}
	case reflect.Slice:
		size := v.Type().Elem().Size() * uintptr(v.Cap())
		out = append(out, region{v.Pointer(), v.Pointer() + size})
		for i := range v.Len() {
			out = append(out, regions(v.Index(i))...)
		}
	}
	return out
}

// shared reports whether two of the regions have common memory.
func shared(all []region) bool {
	all = slices.DeleteFunc(slices.Clone(all), func(r region) bool { return r.from == r.to })
	slices.SortFunc(all, func(a, b region) int { return int(a.from) - int(b.from) })
	for i := 1; i < len(all); i++ {
		if all[i].from < all[i-1].to {
			return true
		}
	}
	return false
}

// snapshot returns all of the arguments, with what lies behind their lists.
func snapshot(x arguments) []int {
	out := []int{x.R.Times, len(x.P), len(x.Q)}
	for _, r := range slices.Concat(x.P[:cap(x.P)], x.Q[:cap(x.Q)], []api.Rat{x.A, x.B, x.R.In.Lo, x.R.In.Hi}) {
		sign := 1
		if r.Neg {
			sign = -1
		}
		out = append(out, sign)
		for _, list := range [][]uint32{r.Num, r.Den} {
			out = append(out, len(list))
			for _, limb := range list[:cap(list)] {
				out = append(out, int(limb))
			}
		}
	}
	return out
}

// R1, R2: no function panics, modifies or retains its arguments, or returns lists
// that share memory, whether or not the arguments are valid.
func TestArgumentsStay(t *testing.T) {
	samples := append(validArguments(), invalidArguments()...)
	for _, c := range calls() {
		for _, x := range samples {
			before := snapshot(x)
			var results []region
			for _, v := range c.of(x) {
				results = append(results, regions(reflect.ValueOf(v))...)
			}
			if !slices.Equal(snapshot(x), before) {
				t.Fatalf("%s modifies its arguments %v", c.name, x)
			}
			if shared(append(results, regions(reflect.ValueOf(x))...)) {
				t.Fatalf("%s: a result shares memory with arguments or another result: %v", c.name, x)
			}
		}
	}
}

// scribble writes over all limbs of v.
func scribble(v reflect.Value) {
	switch v.Kind() {
	case reflect.Struct:
		for i := range v.NumField() {
			scribble(v.Field(i))
		}
	case reflect.Slice:
		if list, ok := v.Interface().([]uint32); ok {
			for i := range list[:cap(list)] {
				list[:cap(list)][i] = 0xdead
			}
			return
		}
		for i := range v.Len() {
			scribble(v.Index(i))
		}
	}
}

// R2, R3: what is done to a result changes no later one.
func TestResultsAreNew(t *testing.T) {
	samples := validArguments()
	for _, c := range calls() {
		for _, x := range samples[:60] {
			first := c.of(x)
			before := fmt.Sprint(first)
			for _, v := range first {
				scribble(reflect.ValueOf(v))
			}
			expectText(t, c.name, fmt.Sprint(c.of(x)), before)
		}
	}
}

// R2: a nil list and an empty one are equivalent.
func TestEmptyLists(t *testing.T) {
	filled := func(r api.Rat) api.Rat {
		return api.Rat{Neg: r.Neg, Num: append([]uint32{}, r.Num...), Den: append([]uint32{}, r.Den...)}
	}
	bare := func(r api.Rat) api.Rat {
		return api.Rat{Neg: r.Neg, Num: append([]uint32(nil), r.Num...), Den: append([]uint32(nil), r.Den...)}
	}
	with := func(x arguments, f func(api.Rat) api.Rat) arguments {
		list := func(p api.Poly) api.Poly {
			out := make(api.Poly, len(p))
			for i, r := range p {
				out[i] = f(r)
			}
			return out
		}
		in := api.Span{Lo: f(x.R.In.Lo), Hi: f(x.R.In.Hi)}
		return arguments{P: list(x.P), Q: list(x.Q), A: f(x.A), B: f(x.B), R: api.Root{In: in, Times: x.R.Times}}
	}
	samples := validArguments()
	for _, c := range calls() {
		for _, x := range samples[:60] {
			expectText(t, c.name+" with empty lists", fmt.Sprint(c.of(with(x, filled))), fmt.Sprint(c.of(with(x, bare))))
		}
	}
	for _, c := range calls() {
		none := c.of(arguments{P: api.Poly{}, Q: api.Poly{}, B: rational.Int(1)})
		expectText(t, c.name+" of nothing", fmt.Sprint(none), fmt.Sprint(c.of(arguments{B: rational.Int(1)})))
	}
}

// validTrimmed reports whether a polynomial is valid and has the least formal degree.
func validTrimmed(p api.Poly) bool {
	return bernstein.Valid(p) && len(bernstein.Trim(p)) == len(p)
}

// R4, R6: polynomials and numbers in results are valid, and there are none with an
// error. Polynomials have the least formal degree.
func TestResultsAreValid(t *testing.T) {
	samples := validArguments()
	for _, c := range calls() {
		for _, x := range samples {
			out := c.of(x)
			if e, ok := out[len(out)-1].(api.Errno); ok && e != api.OK {
				for _, v := range out[:len(out)-1] {
					if !reflect.ValueOf(v).IsZero() {
						t.Fatalf("%s: %v with error %d", c.name, v, int(e))
					}
				}
				continue
			}
			for _, v := range out {
				checkValid(t, c.name, v)
			}
		}
	}
}

func checkValid(t *testing.T, name string, v any) {
	t.Helper()
	switch v := v.(type) {
	case api.Poly:
		if !validTrimmed(v) {
			t.Fatalf("%s: %v", name, v)
		}
	case []api.Poly:
		if slices.ContainsFunc(v, func(p api.Poly) bool { return !validTrimmed(p) }) {
			t.Fatalf("%s: %v", name, v)
		}
	case []api.Root:
		for _, r := range v {
			checkValid(t, name, r)
		}
	case api.Root:
		if !rational.Valid(v.In.Lo) || !rational.Valid(v.In.Hi) || rational.Cmp(v.In.Lo, v.In.Hi) > 0 {
			t.Fatalf("%s: %v", name, v)
		}
	}
}
