package span_test

import (
	"math"
	"slices"
	"testing"

	"brepkernel/api"
	"brepkernel/span"
)

// call is a function of the layer: the spans and numbers that it returns for two
// spans, and everything else.
type call struct {
	name string
	of   func(a, b api.Span) ([]api.Rat, any)
}

// calls returns all functions of the layer.
func calls() []call {
	spans := func(all ...api.Span) []api.Rat {
		var out []api.Rat
		for _, s := range all {
			out = append(out, s.Lo, s.Hi)
		}
		return out
	}
	only := func(f func(a, b api.Span) any) func(a, b api.Span) ([]api.Rat, any) {
		return func(a, b api.Span) ([]api.Rat, any) { return nil, f(a, b) }
	}
	one := func(f func(s api.Span) api.Span) func(a, b api.Span) ([]api.Rat, any) {
		return func(a, b api.Span) ([]api.Rat, any) { return spans(f(a)), nil }
	}
	two := func(f func(a, b api.Span) api.Span) func(a, b api.Span) ([]api.Rat, any) {
		return func(a, b api.Span) ([]api.Rat, any) { return spans(f(a, b)), nil }
	}
	root := func(k int) func(a, b api.Span) ([]api.Rat, any) {
		return func(a, b api.Span) ([]api.Rat, any) {
			s, e := span.Root(a, k)
			return spans(s), e
		}
	}
	return []call{
		{"Valid", only(func(a, b api.Span) any { return span.Valid(a) })},
		{"Same", only(func(a, b api.Span) any { return span.Same(a, b) })},
		{"Has", only(func(a, b api.Span) any { return span.Has(a, b.Lo) })},
		{"Inside", only(func(a, b api.Span) any { return span.Inside(a, b) })},
		{"Sign", only(func(a, b api.Span) any { return signOf(a) })},
		{"Point", func(a, b api.Span) ([]api.Rat, any) { return spans(span.Point(a.Lo)), nil }},
		{"Of", func(a, b api.Span) ([]api.Rat, any) { return spans(span.Of(a.Lo, b.Lo), span.Of(a.Lo, a.Lo)), nil }},
		{"Width", func(a, b api.Span) ([]api.Rat, any) { return []api.Rat{span.Width(a)}, nil }},
		{"Mid", func(a, b api.Span) ([]api.Rat, any) { return []api.Rat{span.Mid(a)}, nil }},
		{"Halves", func(a, b api.Span) ([]api.Rat, any) { return spansOf(span.Halves(a)), nil }},
		{"Meet", func(a, b api.Span) ([]api.Rat, any) {
			s, ok := span.Meet(a, b)
			return spans(s), ok
		}},
		{"Quo", func(a, b api.Span) ([]api.Rat, any) {
			s, e := span.Quo(a, b)
			return spans(s), e
		}},
		{"Root by -1", root(-1)},
		{"Root by 5", root(5)},
		{"Root by 70", root(70)},
		{"Add", two(span.Add)},
		{"Sub", two(span.Sub)},
		{"Mul", two(span.Mul)},
		{"Hull", two(span.Hull)},
		{"Neg", one(span.Neg)},
		{"Sqr", one(span.Sqr)},
		{"Round by 3", one(func(s api.Span) api.Span { return span.Round(s, 3) })},
		{"Round by most", one(func(s api.Span) api.Span { return span.Round(s, math.MaxInt) })},
		{"Det2", two(func(a, b api.Span) api.Span { return span.Det2([2][2]api.Span{{a, b}, {b, a}}) })},
		{"Det3", two(func(a, b api.Span) api.Span { return span.Det3([3][3]api.Span{{a, b, a}, {b, b, a}, {a, a, b}}) })},
	}
}

func spansOf(a, b api.Span) []api.Rat {
	return []api.Rat{a.Lo, a.Hi, b.Lo, b.Hi}
}

func signOf(s api.Span) any {
	sign, sure := span.Sign(s)
	return [2]any{sign, sure}
}

func validSamples() []api.Span {
	return []api.Span{
		{}, of("0", "1"), of("-1", "0"), of("-1", "2"), of("1/3", "1/3"), of("-5/7", "-2/3"), of("4", "9"), of("9/4", "9/4"),
		of("0", "340282366920938463463374607431768211455"), of("-1/340282366920938463463374607431768211455", "18446744073709551617/2"),
		of("18446744073709551617", "18446744073709551617"),
	}
}

func invalidSamples() []api.Span {
	one := api.Rat{Num: []uint32{1}}
	out := []api.Span{of("1", "0"), of("2", "-3/2"), of("18446744073709551617", "1"), {Lo: one}}
	for _, r := range []api.Rat{
		{Neg: true}, {Num: []uint32{0}}, {Num: []uint32{5, 0, 0}}, {Den: []uint32{0}}, {Num: []uint32{1}, Den: []uint32{0}},
		{Num: []uint32{1}, Den: []uint32{0, 0, 0, 0}}, {Neg: true, Num: []uint32{0, 0, 0}, Den: []uint32{0, 0, 0}},
		{Num: []uint32{3}, Den: []uint32{1}}, {Den: []uint32{7}}, {Num: []uint32{6}, Den: []uint32{4}}, {Num: []uint32{0, 0, 6}, Den: []uint32{0, 4, 0}},
		{Num: []uint32{1, 2, 3, 0}, Den: []uint32{0, 0, 0, 0, 0}}, {Num: []uint32{0, 0, 0, 0, 0, 1, 0}, Den: []uint32{0, 0, 1, 0}},
	} {
		out = append(out, api.Span{Lo: r, Hi: r}, api.Span{Lo: one, Hi: r}, api.Span{Lo: r, Hi: one})
	}
	return out
}

// roomy returns s with lists that have limbs behind them that are not theirs.
func roomy(s api.Span) api.Span {
	room := func(a []uint32) []uint32 {
		return append(slices.Clone(a), 11, 22, 33)[:len(a)]
	}
	return eachList(s, room)
}

// whole returns a copy of s with the limbs behind its lists.
func whole(s api.Span) api.Span {
	return eachList(s, func(a []uint32) []uint32 { return slices.Clone(a[:cap(a)]) })
}

// eachList returns s with f of its lists.
func eachList(s api.Span, f func(a []uint32) []uint32) api.Span {
	return api.Span{
		Lo: api.Rat{Neg: s.Lo.Neg, Num: f(s.Lo.Num), Den: f(s.Lo.Den)},
		Hi: api.Rat{Neg: s.Hi.Neg, Num: f(s.Hi.Num), Den: f(s.Hi.Den)},
	}
}

// lists returns the lists of the numbers.
func lists(all []api.Rat) [][]uint32 {
	var out [][]uint32
	for _, r := range all {
		out = append(out, r.Num, r.Den)
	}
	return out
}

func copies(all []api.Rat) []api.Rat {
	var out []api.Rat
	for _, r := range all {
		out = append(out, api.Rat{Neg: r.Neg, Num: slices.Clone(r.Num), Den: slices.Clone(r.Den)})
	}
	return out
}

func equal(a, b api.Rat) bool {
	return a.Neg == b.Neg && slices.Equal(a.Num, b.Num) && slices.Equal(a.Den, b.Den)
}

func same(a, b api.Span) bool {
	return equal(a.Lo, b.Lo) && equal(a.Hi, b.Hi)
}

func scribble(a []uint32) {
	for i := range a[:cap(a)] {
		a[:cap(a)][i] = 0xdead
	}
}

// R1, R2: no function panics, modifies or retains its arguments, or returns lists
// that share memory, whether or not the spans are valid.
func TestArgumentsStay(t *testing.T) {
	samples := append(validSamples(), invalidSamples()...)
	for _, c := range calls() {
		for _, x := range samples {
			for _, y := range samples {
				a, b := roomy(x), roomy(y)
				wholeA, wholeB := whole(a), whole(b)
				out, _ := c.of(a, b)
				before := copies(out)
				if !same(whole(a), wholeA) || !same(whole(b), wholeB) {
					t.Fatalf("%s(%v, %v) modifies its arguments", c.name, x, y)
				}
				for _, list := range lists(spansOf(a, b)) {
					scribble(list)
				}
				if !slices.EqualFunc(out, before, equal) {
					t.Fatalf("%s(%v, %v) returns memory of its arguments", c.name, x, y)
				}
				for i, list := range lists(out) {
					if !slices.Equal(list, lists(before)[i]) {
						t.Fatalf("%s(%v, %v): results share memory", c.name, x, y)
					}
					scribble(list)
				}
			}
		}
	}
}

// R2, R3: what is done to a result changes no later one.
func TestResultsAreNew(t *testing.T) {
	for _, c := range calls() {
		for _, x := range validSamples() {
			first, more := c.of(x, x)
			before := copies(first)
			for _, list := range lists(first) {
				scribble(list)
			}
			second, again := c.of(x, x)
			if !slices.EqualFunc(second, before, equal) || more != again {
				t.Fatalf("%s(%v): %v, then %v", c.name, x, before, second)
			}
		}
	}
}

// R2: a nil list and an empty one are equivalent.
func TestEmptyLists(t *testing.T) {
	fill := func(a []uint32) []uint32 { return append([]uint32{}, a...) }
	for _, c := range calls() {
		for _, x := range validSamples() {
			for _, y := range validSamples() {
				want, more := c.of(x, y)
				got, moreGot := c.of(eachList(x, fill), eachList(y, fill))
				if !slices.EqualFunc(got, want, equal) || moreGot != more {
					t.Errorf("%s(%v, %v): %v, %v; with empty lists %v, %v", c.name, x, y, want, more, got, moreGot)
				}
			}
		}
	}
}

// R4, R6: results are valid spans and numbers, and zero values with an error or a
// false result.
func TestResultsAreValid(t *testing.T) {
	for _, c := range calls() {
		for _, x := range validSamples() {
			for _, y := range validSamples() {
				out, more := c.of(x, y)
				for i := range len(out) / 2 {
					if s := (api.Span{Lo: out[2*i], Hi: out[2*i+1]}); !span.Valid(s) {
						t.Errorf("%s(%v, %v): %v", c.name, x, y, s)
					}
				}
				if e, ok := more.(api.Errno); ok && e != api.OK || more == false {
					for _, r := range out {
						if !equal(r, api.Rat{}) {
							t.Errorf("%s(%v, %v): %v with %v", c.name, x, y, r, more)
						}
					}
				}
			}
		}
	}
}
