package tensor_test

import (
	"math"
	"math/big"
	"testing"

	"brepkernel/api"
	"brepkernel/rational"
	"brepkernel/tensor"
)

// P7.1

func TestValid(t *testing.T) {
	s := source(1)
	for _, d := range degrees() {
		n := s.net(d[0], d[1])
		if !tensor.Valid(n) {
			t.Errorf("Valid of the degrees %v is false", d)
		}
		if tensor.Valid(api.Net{U: d[0], V: d[1], C: n.C[1:]}) || tensor.Valid(api.Net{U: d[0], V: d[1], C: append(n.C, n.C[0])}) {
			t.Errorf("Valid of the degrees %v with a wrong number of coefficients is true", d)
		}
	}
	if tensor.Valid(api.Net{}) || tensor.Valid(api.Net{U: 1, V: 2, C: make([]api.Rat, 5)}) || tensor.Valid(api.Net{U: 3, V: 2, C: make([]api.Rat, 6)}) {
		t.Errorf("Valid of a wrong number of coefficients is true")
	}
}

func TestValidOfDegreesOutOfRange(t *testing.T) {
	more := api.MaxPoly + 1
	for _, n := range []api.Net{
		{U: more, V: 0, C: make([]api.Rat, more+1)}, {U: 0, V: more, C: make([]api.Rat, more+1)}, {U: more, V: more, C: make([]api.Rat, (more+1)*(more+1))},
		{U: 1, V: more, C: make([]api.Rat, 2*(more+1))}, {U: 1000, V: 0, C: make([]api.Rat, 1001)},
		{U: -1}, {V: -1}, {U: -1, V: -1}, {U: -1, V: 5}, {U: 5, V: -1}, {U: -1, V: math.MaxInt}, {U: math.MaxInt, V: math.MaxInt},
		{U: -2, V: -2, C: make([]api.Rat, 1)}, {U: -3, V: -2, C: make([]api.Rat, 2)}, {U: math.MinInt, V: 0}, {U: math.MaxInt, V: 1}, {U: 1, V: math.MaxInt},
	} {
		if tensor.Valid(n) {
			t.Errorf("Valid of the degrees %d and %d with %d coefficients is true", n.U, n.V, len(n.C))
		}
	}
}

func TestValidOfNumbers(t *testing.T) {
	for _, r := range []api.Rat{
		{Neg: true}, {Num: []uint32{0}}, {Num: []uint32{1, 0}}, {Den: []uint32{2}}, {Num: []uint32{1}, Den: []uint32{1}},
		{Num: []uint32{2}, Den: []uint32{4}}, {Num: []uint32{1}, Den: []uint32{0}}, {Num: []uint32{1}, Den: []uint32{3, 0}},
	} {
		for i := range 6 {
			n := net(1, 2, "1 2 3 4 5 6")
			n.C[i] = r
			if tensor.Valid(n) {
				t.Errorf("Valid(%v) is true", n)
			}
		}
	}
}

// examples are u v, 1 + u v^2, u - v, a number, and u^2 - 2 u.
func examples() []api.Net {
	return []api.Net{net(1, 1, "0 0 0 1"), net(1, 2, "1 1 1 1 1 2"), net(1, 1, "0 -1 1 0"), net(0, 0, "7/2"), net(2, 0, "0 -1 -1")}
}

func TestEvalOfExamples(t *testing.T) {
	for _, c := range []struct{ u, v, want string }{
		{"0", "0", "0 1 0 7/2 0"}, {"1", "1", "1 2 0 7/2 -1"}, {"1", "0", "0 1 1 7/2 -1"}, {"0", "1", "0 1 -1 7/2 0"},
		{"1/2", "1/2", "1/4 9/8 0 7/2 -3/4"}, {"2", "-3", "-6 19 5 7/2 0"}, {"-1", "5/2", "-5/2 -21/4 -7/2 7/2 3"},
		{"18446744073709551616", "1/18446744073709551616", "1 18446744073709551617/18446744073709551616 340282366920938463463374607431768211455/18446744073709551616 7/2 340282366920938463426481119284349108224"},
	} {
		var got []api.Rat
		for _, n := range examples() {
			got = append(got, tensor.Eval(n, num(c.u), num(c.v)))
		}
		expectText(t, "Eval at "+c.u+", "+c.v, list(got), c.want)
	}
}

func TestEval(t *testing.T) {
	s := source(2)
	for _, d := range degrees() {
		for range 4 {
			n, u, v := s.net(d[0], d[1]), s.number(), s.number()
			if got, want := tensor.Eval(n, u, v), value(n, exact(u), exact(v)); exact(got).Cmp(want) != 0 {
				t.Fatalf("Eval(%s; %s, %s) = %s; expected %s", show(n), rational.Text(u), rational.Text(v), rational.Text(got), want)
			}
		}
	}
}

func TestRowAndColumnOfExamples(t *testing.T) {
	for _, c := range []struct {
		n      api.Net
		at     string
		row    string
		column string
	}{
		{net(1, 1, "0 0 0 1"), "1/2", "0 1/2", "0 1/2"}, {net(1, 1, "0 0 0 1"), "0", "0 0", "0 0"},
		{net(1, 2, "1 1 1 1 1 2"), "2", "1 1 3", "1 5"}, {net(1, 2, "1 1 1 1 1 2"), "-3", "1 1 -2", "1 10"},
		{net(0, 2, "1 2 5"), "1/3", "1 2 5", "17/9"}, {net(2, 0, "1 2 5"), "1/3", "17/9", "1 2 5"}, {net(0, 0, "-4"), "9", "-4", "-4"},
		{net(1, 1, "1 2 3 4"), "1", "3 4", "2 4"}, {net(1, 1, "1 2 3 4"), "0", "1 2", "1 3"},
	} {
		expectText(t, "Row of "+show(c.n)+" at "+c.at, list(tensor.Row(c.n, num(c.at))), c.row)
		expectText(t, "Column of "+show(c.n)+" at "+c.at, list(tensor.Column(c.n, num(c.at))), c.column)
	}
}

func TestRowAndColumn(t *testing.T) {
	s := source(3)
	for _, d := range degrees() {
		n, r := s.net(d[0], d[1]), s.number()
		row, column := tensor.Row(n, r), tensor.Column(n, r)
		if len(row) != d[1]+1 || len(column) != d[0]+1 {
			t.Fatalf("degrees %v: Row has %d coefficients, Column %d", d, len(row), len(column))
		}
		for _, x := range places(d[1]) {
			if got, want := polyValue(row, x), value(n, exact(r), x); got.Cmp(want) != 0 {
				t.Fatalf("Row(%s; %s) = %s, which is %s at %s; expected %s", show(n), rational.Text(r), list(row), got, x, want)
			}
		}
		for _, x := range places(d[0]) {
			if got, want := polyValue(column, x), value(n, x, exact(r)); got.Cmp(want) != 0 {
				t.Fatalf("Column(%s; %s) = %s, which is %s at %s; expected %s", show(n), rational.Text(r), list(column), got, x, want)
			}
		}
	}
}

func TestPartsOfExamples(t *testing.T) {
	uv, other := net(1, 1, "0 0 0 1"), net(1, 2, "1 1 1 1 1 2")
	for _, c := range []struct {
		n            api.Net
		a, b         string
		partU, partV string
	}{
		{uv, "0", "1", "1 1: 0 0 0 1", "1 1: 0 0 0 1"}, {uv, "1", "0", "1 1: 0 1 0 0", "1 1: 0 0 1 0"},
		{uv, "1", "3", "1 1: 0 1 0 3", "1 1: 0 0 1 3"}, {uv, "1/2", "1/2", "1 1: 0 1/2 0 1/2", "1 1: 0 0 1/2 1/2"},
		{uv, "1", "1", "1 1: 0 1 0 1", "1 1: 0 0 1 1"}, {uv, "0", "0", "1 1: 0 0 0 0", "1 1: 0 0 0 0"},
		{other, "1/2", "0", "1 2: 1 1 3/2 1 1 1", "1 2: 1 1 1 5/4 1 1"}, {other, "-1", "2", "1 2: 1 1 0 1 1 3", "1 2: 1 1 1 2 -1 5"},
		{net(0, 0, "5"), "3", "-4", "0 0: 5", "0 0: 5"}, {net(2, 0, "0 0 1"), "1", "3", "2 0: 1 3 9", "2 0: 0 0 1"},
	} {
		what := show(c.n) + "; " + c.a + "; " + c.b
		expectText(t, "PartU "+what, show(tensor.PartU(c.n, num(c.a), num(c.b))), c.partU)
		expectText(t, "PartV "+what, show(tensor.PartV(c.n, num(c.a), num(c.b))), c.partV)
	}
}

func TestParts(t *testing.T) {
	s := source(4)
	cuts := []api.Rat{{}, rational.Int(1), num("1/2"), num("-2/3"), num("12345/65536"), s.number()}
	for _, d := range degrees() {
		for i, a := range cuts {
			for j, b := range cuts {
				if d[0]+d[1] > 12 && i+j != 5 {
					continue
				}
				n := s.net(d[0], d[1])
				at := func(x *big.Rat) *big.Rat { return plus(exact(a), times(minus(exact(b), exact(a)), x)) }
				what := show(n) + "; " + rational.Text(a) + "; " + rational.Text(b)
				expect(t, "PartU "+what, tensor.PartU(n, a, b), d[0], d[1], func(x, y *big.Rat) *big.Rat { return value(n, at(x), y) })
				expect(t, "PartV "+what, tensor.PartV(n, a, b), d[0], d[1], func(x, y *big.Rat) *big.Rat { return value(n, x, at(y)) })
			}
		}
	}
}

// P7.3

func TestBounds(t *testing.T) {
	for _, c := range []struct {
		n    api.Net
		want string
	}{
		{net(0, 0, "0"), "0 0"}, {net(0, 0, "-3"), "-3 -3"}, {net(1, 0, "3 -2"), "-2 3"}, {net(0, 1, "3 -2"), "-2 3"},
		{net(1, 2, "1/2 1/3 1/4 1/5 1/6 1/7"), "1/7 1/2"}, {net(1, 2, "1/7 1/6 1/5 1/4 1/3 1/2"), "1/7 1/2"},
		{net(2, 1, "0 0 -9 8 0 0"), "-9 8"}, {net(2, 1, "0 0 8 -9 0 0"), "-9 8"}, {net(2, 1, "1 1 5 5 3 3"), "1 5"}, {net(2, 1, "-1 -1 -5 -5 -3 -3"), "-5 -1"},
	} {
		b := tensor.Bounds(c.n)
		expectText(t, "Bounds of "+show(c.n), list([]api.Rat{b.Lo, b.Hi}), c.want)
	}
	s := source(5)
	for _, d := range degrees() {
		n := s.net(d[0], d[1])
		low, high := n.C[0], n.C[0]
		for _, r := range n.C {
			low, high = rational.Min(low, r), rational.Max(high, r)
		}
		b := tensor.Bounds(n)
		expectText(t, "Bounds of "+show(n), list([]api.Rat{b.Lo, b.Hi}), list([]api.Rat{low, high}))
	}
}

func TestZero(t *testing.T) {
	for _, d := range degrees() {
		n := api.Net{U: d[0], V: d[1], C: make([]api.Rat, (d[0]+1)*(d[1]+1))}
		if !tensor.Zero(n) {
			t.Errorf("Zero of the degrees %v is false", d)
		}
		for i := range n.C {
			n.C[i] = num("-1/9")
			if tensor.Zero(n) {
				t.Errorf("Zero is true where the coefficient %d of the degrees %v is not 0", i, d)
			}
			n.C[i] = api.Rat{}
		}
	}
	if tensor.Zero(net(1, 1, "1 -1 -1 1")) {
		t.Errorf("Zero of coefficients whose sum is 0 is true")
	}
}

// Consequences

func TestValuesLieInBounds(t *testing.T) {
	s := source(6)
	for range 60 {
		n := s.net(s.below(4), s.below(4))
		b := tensor.Bounds(n)
		for range 10 {
			u, _ := rational.Make(int64(s.below(17)), 16)
			v, _ := rational.Make(int64(s.below(17)), 16)
			x := tensor.Eval(n, u, v)
			if rational.Cmp(x, b.Lo) < 0 || rational.Cmp(x, b.Hi) > 0 {
				t.Fatalf("Eval(%s; %s, %s) = %s", show(n), rational.Text(u), rational.Text(v), rational.Text(x))
			}
			for _, part := range []api.Net{tensor.PartU(n, u, v), tensor.PartV(n, u, v)} {
				if c := tensor.Bounds(part); rational.Cmp(c.Lo, b.Lo) < 0 || rational.Cmp(c.Hi, b.Hi) > 0 {
					t.Fatalf("a part of %s from %s to %s: the bounds are wider", show(n), rational.Text(u), rational.Text(v))
				}
			}
		}
	}
}
