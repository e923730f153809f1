package rational_test

import (
	"math"
	"slices"
	"testing"

	"brepkernel/api"
	"brepkernel/rational"
)

// call is a function of the layer with two numbers as arguments: the number that
// it returns, and everything else.
type call struct {
	name string
	of   func(a, b api.Rat) (api.Rat, any)
}

// calls returns all functions that take numbers.
func calls() []call {
	only := func(f func(a, b api.Rat) any) func(a, b api.Rat) (api.Rat, any) {
		return func(a, b api.Rat) (api.Rat, any) { return api.Rat{}, f(a, b) }
	}
	one := func(f func(r api.Rat) api.Rat) func(a, b api.Rat) (api.Rat, any) {
		return func(a, b api.Rat) (api.Rat, any) { return f(a), nil }
	}
	two := func(f func(a, b api.Rat) api.Rat) func(a, b api.Rat) (api.Rat, any) {
		return func(a, b api.Rat) (api.Rat, any) { return f(a, b), nil }
	}
	scaled := func(f func(r api.Rat, k int) api.Rat, k int) func(a, b api.Rat) (api.Rat, any) {
		return func(a, b api.Rat) (api.Rat, any) { return f(a, k), nil }
	}
	return []call{
		{"Valid", only(func(a, b api.Rat) any { return rational.Valid(a) })},
		{"Same", only(func(a, b api.Rat) any { return rational.Same(a, b) })},
		{"Cmp", only(func(a, b api.Rat) any { return rational.Cmp(a, b) })},
		{"Sign", only(func(a, b api.Rat) any { return rational.Sign(a) })},
		{"Bits", only(func(a, b api.Rat) any { return rational.Bits(a) })},
		{"Text", only(func(a, b api.Rat) any { return rational.Text(a) })},
		{"Norm", func(a, b api.Rat) (api.Rat, any) { return anyNumber(rational.Norm(a)) }},
		{"Quo", func(a, b api.Rat) (api.Rat, any) { return anyNumber(rational.Quo(a, b)) }},
		{"Neg", one(rational.Neg)},
		{"Abs", one(rational.Abs)},
		{"Floor", one(rational.Floor)},
		{"Add", two(rational.Add)},
		{"Sub", two(rational.Sub)},
		{"Mul", two(rational.Mul)},
		{"Min", two(rational.Min)},
		{"Max", two(rational.Max)},
		{"Mid", two(rational.Mid)},
		{"Down by -1", scaled(rational.Down, -1)},
		{"Down by 3", scaled(rational.Down, 3)},
		{"Down by most", scaled(rational.Down, math.MaxInt)},
		{"Up by least", scaled(rational.Up, math.MinInt)},
		{"Up by 3", scaled(rational.Up, 3)},
		{"Up by 200", scaled(rational.Up, 200)},
	}
}

func anyNumber(r api.Rat, e api.Errno) (api.Rat, any) {
	return r, e
}

func validSamples() []api.Rat {
	return []api.Rat{
		{}, of(1, 1), of(-1, 1), of(6, 1), of(-3, 2), of(1, 3), of(7, 8), of(1<<40, 3), of(-5, 1<<50),
		{Num: []uint32{3, 1, 1 << 31}}, {Neg: true, Num: []uint32{3, 1, 9}, Den: []uint32{2}}, {Num: []uint32{5, 0, 0, 9}, Den: []uint32{0, 0, 0, 4}},
		{Neg: true, Num: []uint32{1}, Den: []uint32{0, 0, 0, 1}}, {Num: []uint32{4, 0, 7}, Den: []uint32{7, 7, 7, 7, 1}},
	}
}

func invalidSamples() []api.Rat {
	return []api.Rat{
		{Neg: true}, {Num: []uint32{0}}, {Num: []uint32{5, 0, 0}}, {Den: []uint32{0}}, {Num: []uint32{1}, Den: []uint32{0}},
		{Num: []uint32{1}, Den: []uint32{0, 0, 0, 0}}, {Neg: true, Num: []uint32{0, 0, 0}, Den: []uint32{0, 0, 0}},
		{Num: []uint32{3}, Den: []uint32{1}}, {Den: []uint32{7}}, {Num: []uint32{6}, Den: []uint32{4}}, {Num: []uint32{0, 0, 6}, Den: []uint32{0, 4, 0}},
		{Num: []uint32{1, 2, 3}, Den: []uint32{1, 2, 3}}, {Num: []uint32{1, 2, 3, 0}, Den: []uint32{0, 0, 0, 0, 0}},
	}
}

// roomy returns r with lists that have limbs behind them that are not theirs.
func roomy(r api.Rat) api.Rat {
	room := func(a []uint32) []uint32 {
		return append(slices.Clone(a), 11, 22, 33)[:len(a)]
	}
	return api.Rat{Neg: r.Neg, Num: room(r.Num), Den: room(r.Den)}
}

// whole returns a copy of r with the limbs behind its lists.
func whole(r api.Rat) api.Rat {
	return api.Rat{Neg: r.Neg, Num: slices.Clone(r.Num[:cap(r.Num)]), Den: slices.Clone(r.Den[:cap(r.Den)])}
}

func copied(r api.Rat) api.Rat {
	return api.Rat{Neg: r.Neg, Num: slices.Clone(r.Num), Den: slices.Clone(r.Den)}
}

func scribble(a []uint32) {
	for i := range a[:cap(a)] {
		a[:cap(a)][i] = 0xdead
	}
}

// R1, R2: no function panics, modifies or retains its arguments, or returns two
// lists that share memory, whether or not the numbers are valid.
func TestArgumentsStay(t *testing.T) {
	samples := append(validSamples(), invalidSamples()...)
	for _, c := range calls() {
		for _, x := range samples {
			for _, y := range samples {
				a, b := roomy(x), roomy(y)
				wholeA, wholeB := whole(a), whole(b)
				out, _ := c.of(a, b)
				before := copied(out)
				if !equal(whole(a), wholeA) || !equal(whole(b), wholeB) {
					t.Fatalf("%s(%v, %v) modifies its arguments", c.name, x, y)
				}
				for _, list := range [][]uint32{a.Num, a.Den, b.Num, b.Den} {
					scribble(list)
				}
				if !equal(out, before) {
					t.Fatalf("%s(%v, %v) returns memory of its arguments", c.name, x, y)
				}
				scribble(out.Num)
				if !slices.Equal(out.Den, before.Den) {
					t.Fatalf("%s(%v, %v): numerator and denominator share memory", c.name, x, y)
				}
			}
		}
	}
}

// R2, R3: what is done to a result changes no later one.
func TestResultsAreNew(t *testing.T) {
	for _, c := range calls() {
		for _, x := range validSamples() {
			first, more := c.of(x, x)
			before := copied(first)
			scribble(first.Num)
			scribble(first.Den)
			second, again := c.of(x, x)
			if !equal(second, before) || more != again {
				t.Fatalf("%s(%v): %v, then %v", c.name, x, before, second)
			}
		}
	}
	for range 2 {
		made, _ := rational.Make(-6, 4)
		parsed, _ := rational.Parse("-1.5")
		if !equal(made, of(-3, 2)) || !equal(parsed, of(-3, 2)) || !equal(rational.Int(9), of(9, 1)) {
			t.Fatalf("Make: %v, Parse: %v", made, parsed)
		}
		for _, list := range [][]uint32{made.Num, made.Den, parsed.Num, parsed.Den, rational.Int(9).Num} {
			scribble(list)
		}
	}
}

// R2: a nil list and an empty one are equivalent.
func TestEmptyLists(t *testing.T) {
	filled := func(r api.Rat) api.Rat {
		return api.Rat{Neg: r.Neg, Num: append([]uint32{}, r.Num...), Den: append([]uint32{}, r.Den...)}
	}
	for _, c := range calls() {
		for _, x := range validSamples() {
			for _, y := range validSamples() {
				want, more := c.of(x, y)
				got, moreGot := c.of(filled(x), filled(y))
				if !equal(got, want) || moreGot != more {
					t.Errorf("%s(%v, %v): %v, %v; with empty lists %v, %v", c.name, x, y, want, more, got, moreGot)
				}
			}
		}
	}
}

// R6: the numbers in results are valid, and those of errors are 0.
func TestResultsAreValid(t *testing.T) {
	for _, c := range calls() {
		for _, x := range validSamples() {
			for _, y := range validSamples() {
				out, more := c.of(x, y)
				if e, ok := more.(api.Errno); !rational.Valid(out) || ok && e != api.OK && !isZeroValue(out) {
					t.Errorf("%s(%v, %v) = %v, %v", c.name, x, y, out, more)
				}
			}
		}
	}
}
