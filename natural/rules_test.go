package natural_test

import (
	"slices"
	"testing"

	"brepkernel/api"
	"brepkernel/natural"
)

// call is a function of the layer with two numbers as arguments: the lists that
// it returns, and everything else.
type call struct {
	name string
	of   func(a, b []uint32) ([][]uint32, any)
}

// calls returns all functions that take or return magnitudes.
func calls() []call {
	shift := func(n int) func(a, b []uint32) ([][]uint32, any) {
		return func(a, b []uint32) ([][]uint32, any) {
			out, e := natural.Shift(a, n)
			return [][]uint32{out}, e
		}
	}
	return []call{
		{"Valid", func(a, b []uint32) ([][]uint32, any) { return nil, natural.Valid(a) }},
		{"Cmp", func(a, b []uint32) ([][]uint32, any) { return nil, natural.Cmp(a, b) }},
		{"Bits", func(a, b []uint32) ([][]uint32, any) { return nil, natural.Bits(a) }},
		{"Text", func(a, b []uint32) ([][]uint32, any) { return nil, natural.Text(a) }},
		{"Add", func(a, b []uint32) ([][]uint32, any) { return [][]uint32{natural.Add(a, b)}, nil }},
		{"Mul", func(a, b []uint32) ([][]uint32, any) { return [][]uint32{natural.Mul(a, b)}, nil }},
		{"Gcd", func(a, b []uint32) ([][]uint32, any) { return [][]uint32{natural.Gcd(a, b)}, nil }},
		{"Sub", func(a, b []uint32) ([][]uint32, any) {
			out, e := natural.Sub(a, b)
			return [][]uint32{out}, e
		}},
		{"Div", func(a, b []uint32) ([][]uint32, any) {
			q, r, e := natural.Div(a, b)
			return [][]uint32{q, r}, e
		}},
		{"Shift by 0", shift(0)},
		{"Shift by 32", shift(32)},
		{"Shift by 5", shift(5)},
		{"Shift by -32", shift(-32)},
		{"Shift by -5", shift(-5)},
		{"Shift too far", shift(8*api.MaxBits + 1)},
	}
}

// roomy returns a with limbs behind it that are not part of it.
func roomy(a []uint32) []uint32 {
	return append(slices.Clone(a), 11, 22, 33)[:len(a)]
}

func whole(a []uint32) []uint32 {
	return slices.Clone(a[:cap(a)])
}

func scribble(a []uint32) {
	for i := range a[:cap(a)] {
		a[:cap(a)][i] = 0xdead
	}
}

func lists(out [][]uint32) [][]uint32 {
	var all [][]uint32
	for _, x := range out {
		all = append(all, slices.Clone(x))
	}
	return all
}

func sameLists(x, y [][]uint32) bool {
	return slices.EqualFunc(x, y, slices.Equal[[]uint32])
}

func samples() [][]uint32 {
	return [][]uint32{
		nil, {1}, {6}, {top}, {0, 1}, {top, top}, {3, 1, 1 << 31}, {7, 0, 0, 9}, {0, 0, 1 << 20, 5, 1},
		{1, 0}, {0}, {0, 0, 0}, {5, 6, 7, 0, 0}, // no magnitudes
	}
}

// R2: arguments are neither modified nor retained, and results share no memory.
func TestArgumentsStay(t *testing.T) {
	for _, c := range calls() {
		for _, x := range samples() {
			for _, y := range samples() {
				a, b := roomy(x), roomy(y)
				wholeA, wholeB := whole(a), whole(b)
				out, _ := c.of(a, b)
				before := lists(out)
				if !slices.Equal(whole(a), wholeA) || !slices.Equal(whole(b), wholeB) {
					t.Fatalf("%s(%v, %v) modifies its arguments", c.name, x, y)
				}
				scribble(a)
				scribble(b)
				if !sameLists(out, before) {
					t.Fatalf("%s(%v, %v) returns memory of its arguments", c.name, x, y)
				}
				for i := range out {
					scribble(out[i])
					if !sameLists(out[i+1:], before[i+1:]) {
						t.Fatalf("%s(%v, %v): results share memory", c.name, x, y)
					}
				}
			}
		}
	}
}

// R2, R3: what is done to a result changes no later one.
func TestResultsAreNew(t *testing.T) {
	for _, c := range calls() {
		for _, x := range samples() {
			first, more := c.of(x, x)
			before := lists(first)
			for _, out := range first {
				scribble(out)
			}
			second, again := c.of(x, x)
			if !sameLists(second, before) || more != again {
				t.Fatalf("%s(%v): %v, then %v", c.name, x, before, second)
			}
		}
	}
	for range 2 {
		of := natural.Of(1<<40 + 7)
		parsed, _ := natural.Parse("1099511627783")
		if !slices.Equal(of, []uint32{7, 256}) || !slices.Equal(parsed, of) {
			t.Fatalf("Of: %v, Parse: %v", of, parsed)
		}
		scribble(of)
		scribble(parsed)
	}
}

// Nothing is promised for lists that are no magnitudes (R5), but that they do no
// harm: they are taken for the numbers for which they stand.
func TestHighZeros(t *testing.T) {
	for _, c := range calls() {
		if c.name == "Valid" {
			continue
		}
		for _, x := range samples() {
			for _, y := range samples() {
				got, more := c.of(x, y)
				want, moreWanted := c.of(limbs(value(x)), limbs(value(y)))
				if !sameLists(got, want) || more != moreWanted {
					t.Errorf("%s(%v, %v) = %v, %v; expected %v, %v", c.name, x, y, got, more, want, moreWanted)
				}
			}
		}
	}
}
