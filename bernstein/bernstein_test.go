package bernstein_test

import (
	"math/big"
	"testing"

	"brepkernel/api"
	"brepkernel/bernstein"
	"brepkernel/rational"
)

// P5.1

func TestValid(t *testing.T) {
	s := source(1)
	for n := range api.MaxPoly + 1 {
		if p := s.poly(n); !bernstein.Valid(p) {
			t.Errorf("Valid(%s) is false", show(p))
		}
	}
	if bernstein.Valid(nil) || bernstein.Valid(api.Poly{}) {
		t.Errorf("Valid of no coefficients is true")
	}
	for _, n := range []int{api.MaxPoly + 1, api.MaxPoly + 2, 1000} {
		if bernstein.Valid(make(api.Poly, n+1)) {
			t.Errorf("Valid of the degree %d is true", n)
		}
	}
	for _, r := range []api.Rat{
		{Neg: true}, {Num: []uint32{0}}, {Num: []uint32{1, 0}}, {Den: []uint32{2}}, {Num: []uint32{1}, Den: []uint32{1}},
		{Num: []uint32{2}, Den: []uint32{4}}, {Num: []uint32{1}, Den: []uint32{0}}, {Num: []uint32{1}, Den: []uint32{3, 0}},
	} {
		for i := range 3 {
			p := poly("1 2 3")
			p[i] = r
			if bernstein.Valid(p) {
				t.Errorf("Valid(%v) is true", p)
			}
		}
	}
}

func TestEvalOfExamples(t *testing.T) {
	for _, c := range []struct{ p, t, want string }{
		{"0 0 1", "1/2", "1/4"}, {"0 0 1", "0", "0"}, {"0 0 1", "1", "1"}, {"0 0 1", "-3", "9"}, {"0 0 1", "5/2", "25/4"},
		{"7/2", "0", "7/2"}, {"7/2", "1/3", "7/2"}, {"7/2", "-9", "7/2"}, {"0", "4", "0"},
		{"1 3", "1/2", "2"}, {"1 3", "-1/2", "0"}, {"1 3", "2", "5"},
		{"1/2 1/3 1/5", "0", "1/2"}, {"1/2 1/3 1/5", "1", "1/5"}, {"1/2 1/3 1/5", "1/2", "41/120"},
		{"0 0 0 -1", "18446744073709551616", "-6277101735386680763835789423207666416102355444464034512896"},
	} {
		expectText(t, "Eval("+c.p+"; "+c.t+")", rational.Text(bernstein.Eval(poly(c.p), num(c.t))), c.want)
	}
}

func TestEval(t *testing.T) {
	s := source(2)
	for _, n := range degrees() {
		for range 20 {
			p, x := s.poly(n), s.number()
			if got, want := bernstein.Eval(p, x), value(p, exact(x)); !rational.Same(got, rat(want)) {
				t.Fatalf("Eval(%s; %s) = %s; expected %s", show(p), rational.Text(x), rational.Text(got), want)
			}
		}
	}
}

func TestPartOfExamples(t *testing.T) {
	for _, c := range []struct{ p, a, b, want string }{
		{"0 0 1", "0", "1", "0 0 1"}, {"0 0 1", "1", "0", "1 0 0"}, {"0 0 1", "1", "1", "1 1 1"}, {"0 0 1", "0", "0", "0 0 0"},
		{"0 0 1", "1", "3", "1 3 9"}, {"0 0 1", "-1", "2", "1 -2 4"}, {"0 0 1", "1/4", "3/4", "1/16 3/16 9/16"},
		{"0 0 1", "3/4", "1/4", "9/16 3/16 1/16"}, {"0 0 1", "2", "1", "4 2 1"}, {"0 0 1", "2/3", "2/3", "4/9 4/9 4/9"},
		{"5", "3", "4", "5"}, {"1 3", "1", "-1/2", "3 0"}, {"0", "1", "1", "0"},
	} {
		got := bernstein.Part(poly(c.p), num(c.a), num(c.b))
		expectText(t, "Part("+c.p+"; "+c.a+"; "+c.b+")", show(got), c.want)
	}
}

// cuts returns numbers at which polynomials are cut, with the ends of [0, 1].
func (s *source) cuts() []api.Rat {
	return []api.Rat{{}, rational.Int(1), num("1/2"), num("12345/65536"), num("-2/3"), rational.Int(2), s.number(), s.number()}
}

func TestPart(t *testing.T) {
	s := source(3)
	for _, n := range degrees()[:8] {
		for _, a := range s.cuts() {
			for _, b := range s.cuts() {
				p := s.poly(n)
				from, width := exact(a), minus(exact(b), exact(a))
				inPart := func(x *big.Rat) *big.Rat { return value(p, plus(from, times(width, x))) }
				expect(t, "Part("+show(p)+"; "+rational.Text(a)+"; "+rational.Text(b)+")", bernstein.Part(p, a, b), n, inPart)
			}
		}
	}
	p, a, b := s.poly(api.MaxPoly), num("-2/3"), num("5/8")
	inPart := func(x *big.Rat) *big.Rat { return value(p, plus(exact(a), times(big.NewRat(31, 24), x))) }
	expect(t, "Part of the greatest degree", bernstein.Part(p, a, b), api.MaxPoly, inPart)
}

func TestSplit(t *testing.T) {
	lower, upper := bernstein.Split(poly("0 0 1"), num("1/2"))
	expectText(t, "lower part", show(lower), "0 0 1/4")
	expectText(t, "upper part", show(upper), "1/4 1/2 1")
	s := source(4)
	for _, n := range degrees() {
		for _, x := range s.cuts() {
			p := s.poly(n)
			lower, upper := bernstein.Split(p, x)
			what := "Split(" + show(p) + "; " + rational.Text(x) + ")"
			expectText(t, what, show(lower), show(bernstein.Part(p, api.Rat{}, x)))
			expectText(t, what, show(upper), show(bernstein.Part(p, x, rational.Int(1))))
		}
	}
}

// P5.3

func TestBounds(t *testing.T) {
	for text, want := range map[string]string{
		"2 -1 5": "-1 5", "5 -1 2": "-1 5", "-1 2 5": "-1 5", "0": "0 0", "3": "3 3", "1/2 1/3": "1/3 1/2", "-1/2 -1/3 -1/2": "-1/2 -1/3",
		"0 0 1/18446744073709551616": "0 1/18446744073709551616",
	} {
		b := bernstein.Bounds(poly(text))
		expectText(t, "Bounds("+text+")", show(api.Poly{b.Lo, b.Hi}), want)
	}
	s := source(5)
	for _, n := range degrees() {
		p := s.poly(n)
		low, high := p[0], p[0]
		for _, r := range p {
			low, high = rational.Min(low, r), rational.Max(high, r)
		}
		b := bernstein.Bounds(p)
		expectText(t, "Bounds("+show(p)+")", show(api.Poly{b.Lo, b.Hi}), show(api.Poly{low, high}))
	}
}

func TestVariations(t *testing.T) {
	for text, want := range map[string]int{
		"0": 0, "0 0 0": 0, "1": 0, "-1": 0, "1 2 3": 0, "-1 -2": 0, "0 1 0 2 0": 0, "0 -1 0 -2 0": 0,
		"1 -1": 1, "-1 1": 1, "-2 1": 1, "2 -1/9": 1, "0 3 0 -3 0": 1, "1 0 0 0 -1": 1, "1 1 -1 -1": 1,
		"1 -1 0 1": 2, "1 -1 1": 2, "-1 0 1 0 -1": 2, "1 -1 1 -1": 3, "1 -2 0 0 3 4 0 -5 -6": 3,
	} {
		if got := bernstein.Variations(poly(text)); got != want {
			t.Errorf("Variations(%s) = %d; expected %d", text, got, want)
		}
	}
	alternating := make(api.Poly, api.MaxPoly+1)
	for i := range alternating {
		alternating[i] = rational.Int(int64(1 - i%2*2))
	}
	if got := bernstein.Variations(alternating); got != api.MaxPoly {
		t.Errorf("Variations of %d signs that alternate = %d", api.MaxPoly+1, got)
	}
}

// P5.4: Same and Zero

func TestZero(t *testing.T) {
	for _, n := range degrees() {
		if !bernstein.Zero(make(api.Poly, n+1)) {
			t.Errorf("Zero of the degree %d is false", n)
		}
		for i := range n + 1 {
			if bernstein.Zero(unit(n, i)) || bernstein.Zero(bernstein.Scale(num("-1/9"), unit(n, i))) {
				t.Errorf("Zero is true where the coefficient %d of the degree %d is not 0", i, n)
			}
		}
	}
}

func TestSame(t *testing.T) {
	for _, c := range []struct {
		p, q string
		want bool
	}{
		{"0 1", "0 1/2 1", true}, {"0 1", "0 1/3 2/3 1", true}, {"0 1", "0 1/3 1", false}, {"0 1", "0 1", true}, {"0 1", "1 0", false},
		{"3", "3 3 3", true}, {"3", "3 3 -3", false}, {"3", "-3", false}, {"0", "0 0 0", true}, {"0", "0 0 1", false},
		{"1 0 2", "1 0 3", false}, {"1 0 2", "1 1 2", false}, {"2 0 2", "1 0 2", false}, {"0 0 1", "0 1", false},
	} {
		if bernstein.Same(poly(c.p), poly(c.q)) != c.want || bernstein.Same(poly(c.q), poly(c.p)) != c.want {
			t.Errorf("Same(%s; %s) is not %v", c.p, c.q, c.want)
		}
	}
	s := source(6)
	for _, n := range degrees() {
		p := s.poly(n)
		up, _ := bernstein.Elevate(p, min(api.MaxPoly, n+3))
		if !bernstein.Same(p, up) || !bernstein.Same(up, p) {
			t.Errorf("Same(%s) of higher degrees is false", show(p))
		}
		up[len(up)/2] = rational.Add(up[len(up)/2], num("1/99"))
		if bernstein.Same(p, up) || bernstein.Same(up, p) {
			t.Errorf("Same(%s) of another polynomial is true", show(p))
		}
	}
}

// Consequences

func TestValuesLieInBounds(t *testing.T) {
	s := source(7)
	for range 100 {
		p := s.poly(s.below(9))
		b := bernstein.Bounds(p)
		for i := range 17 {
			x, _ := rational.Make(int64(i), 16)
			v := bernstein.Eval(p, x)
			if rational.Cmp(v, b.Lo) < 0 || rational.Cmp(v, b.Hi) > 0 {
				t.Fatalf("Eval(%s; %s) = %s", show(p), rational.Text(x), rational.Text(v))
			}
			lower, upper := bernstein.Split(p, x)
			for _, part := range []api.Poly{lower, upper} {
				if c := bernstein.Bounds(part); rational.Cmp(c.Lo, b.Lo) < 0 || rational.Cmp(c.Hi, b.Hi) > 0 {
					t.Fatalf("Split(%s; %s): the bounds are wider", show(p), rational.Text(x))
				}
			}
		}
	}
}

// TestVariationsAreRoots takes products of factors whose roots are known.
func TestVariationsAreRoots(t *testing.T) {
	s := source(8)
	for range 300 {
		p, roots := constant(0, rational.Int(int64(1-s.below(2)*2))), 0
		for range s.below(6) {
			factor, inside := poly("2 1 1"), 0
			if s.below(4) > 0 { // x - root
				root, _ := rational.Make(int64(s.below(41)-10), 20)
				if rational.Sign(root) == 0 || rational.Same(root, rational.Int(1)) {
					continue
				}
				factor = bernstein.Sub(poly("0 1"), api.Poly{root})
				if rational.Sign(root) > 0 && rational.Cmp(root, rational.Int(1)) < 0 {
					inside = 1
				}
			}
			p, _ = bernstein.Mul(p, factor)
			roots += inside
		}
		count := bernstein.Variations(p)
		if count < roots || (count-roots)%2 != 0 {
			t.Fatalf("Variations(%s) = %d; there are %d roots", show(p), count, roots)
		}
		up, _ := bernstein.Elevate(p, len(p)+s.below(5))
		if more := bernstein.Variations(up); more > count {
			t.Fatalf("Variations(%s) = %d; elevated %d", show(p), count, more)
		}
	}
}
