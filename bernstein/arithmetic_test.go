package bernstein_test

import (
	"math"
	"math/big"
	"testing"

	"brepkernel/api"
	"brepkernel/bernstein"
	"brepkernel/rational"
)

// P5.2

func TestElevateOfExamples(t *testing.T) {
	for _, c := range []struct {
		p    string
		n    int
		want string
	}{
		{"0 1", 2, "0 1/2 1"}, {"0 1", 1, "0 1"}, {"1 0 3", 4, "1 1/2 2/3 3/2 3"}, {"1 0 3", 2, "1 0 3"},
		{"1/3", 0, "1/3"}, {"1/3", 2, "1/3 1/3 1/3"}, {"0", 1, "0 0"},
	} {
		got, e := bernstein.Elevate(poly(c.p), c.n)
		expectText(t, "Elevate("+c.p+")", show(got), c.want)
		if e != api.OK {
			t.Errorf("Elevate(%s; %d): error %d", c.p, c.n, e)
		}
	}
}

func TestElevate(t *testing.T) {
	s := source(11)
	for _, n := range degrees() {
		for _, more := range []int{0, 1, 2, 9, api.MaxPoly - n} {
			if n+more > api.MaxPoly {
				continue
			}
			p := s.poly(n)
			got, e := bernstein.Elevate(p, n+more)
			expect(t, "Elevate("+show(p)+")", got, n+more, func(x *big.Rat) *big.Rat { return value(p, x) })
			if e != api.OK {
				t.Fatalf("Elevate(%s; %d): error %d", show(p), n+more, e)
			}
		}
	}
}

func TestElevateOutOfRange(t *testing.T) {
	for _, n := range []int{0, 1, 2, 7, api.MaxPoly} {
		for _, to := range []int{n - 1, -1, -2, math.MinInt, math.MinInt + 1, api.MaxPoly + 1, 1 << 40, math.MaxInt} {
			if got, e := bernstein.Elevate(unit(n, n), to); len(got) != 0 || e != api.ErrRange {
				t.Errorf("Elevate from %d to %d: %s, %d", n, to, show(got), e)
			}
		}
	}
}

func TestAddAndSub(t *testing.T) {
	expectText(t, "Add", show(bernstein.Add(poly("0 1"), poly("1 0 3"))), "1 1/2 4")
	expectText(t, "Sub", show(bernstein.Sub(poly("0 1"), poly("1 0 3"))), "-1 1/2 -2")
	expectText(t, "Sub", show(bernstein.Sub(poly("1 0 3"), poly("0 1"))), "1 -1/2 2")
	expectText(t, "Sub of equal ones", show(bernstein.Sub(poly("1 2/3 -3"), poly("1 2/3 -3"))), "0 0 0")
	s := source(12)
	for _, n := range degrees() {
		for _, m := range []int{0, 1, 6, n, api.MaxPoly} {
			p, q := s.poly(n), s.poly(m)
			what := show(p) + "; " + show(q)
			expect(t, "Add "+what, bernstein.Add(p, q), max(n, m), func(x *big.Rat) *big.Rat { return plus(value(p, x), value(q, x)) })
			expect(t, "Sub "+what, bernstein.Sub(p, q), max(n, m), func(x *big.Rat) *big.Rat { return minus(value(p, x), value(q, x)) })
		}
	}
}

func TestMul(t *testing.T) {
	product, e := bernstein.Mul(poly("0 1"), poly("1 0 3")) // x (1 - 2 x + 4 x^2)
	expectText(t, "Mul", show(product), "0 1/3 0 3")
	if e != api.OK {
		t.Errorf("Mul: error %d", e)
	}
	s := source(13)
	for _, n := range degrees() {
		for _, m := range []int{0, 1, 2, 5, api.MaxPoly - n} {
			if n+m > api.MaxPoly {
				continue
			}
			p, q := s.poly(n), s.poly(m)
			product, e := bernstein.Mul(p, q)
			expect(t, "Mul "+show(p)+"; "+show(q), product, n+m, func(x *big.Rat) *big.Rat { return times(value(p, x), value(q, x)) })
			if e != api.OK {
				t.Fatalf("Mul of the degrees %d and %d: error %d", n, m, e)
			}
		}
	}
}

// TestMulOfTooMuch has factors that are 0, or of lower degrees than the formal
// ones: these alone count.
func TestMulOfTooMuch(t *testing.T) {
	for n := range api.MaxPoly + 1 {
		m := api.MaxPoly - n
		p := constant(n, rational.Int(2))
		if product, e := bernstein.Mul(p, make(api.Poly, m+1)); len(product) != api.MaxPoly+1 || !bernstein.Zero(product) || e != api.OK {
			t.Errorf("Mul of the degrees %d and %d: %s, %d", n, m, show(product), e)
		}
		if m == api.MaxPoly {
			continue
		}
		for _, q := range []api.Poly{make(api.Poly, m+2), constant(m+1, rational.Int(1))} {
			if product, e := bernstein.Mul(p, q); len(product) != 0 || e != api.ErrSize {
				t.Errorf("Mul of the degrees %d and %d: %s, %d", n, m+1, show(product), e)
			}
		}
	}
}

func TestScale(t *testing.T) {
	expectText(t, "Scale", show(bernstein.Scale(num("-2"), poly("1 0 3"))), "-2 0 -6")
	expectText(t, "Scale by 0", show(bernstein.Scale(api.Rat{}, poly("1 0 3"))), "0 0 0")
	s := source(14)
	for _, n := range degrees() {
		p, r := s.poly(n), s.number()
		expect(t, "Scale "+show(p), bernstein.Scale(r, p), n, func(x *big.Rat) *big.Rat { return times(exact(r), value(p, x)) })
	}
}

func TestDiff(t *testing.T) {
	for text, want := range map[string]string{
		"0 0 1": "0 2", "1 0 3": "-2 6", "5": "0", "0": "0", "5 5": "0", "1 3": "2", "1/2 1/3": "-1/6", "7 7 7 7": "0 0 0",
	} {
		expectText(t, "Diff("+text+")", show(bernstein.Diff(poly(text))), want)
	}
	s := source(15)
	for _, n := range degrees() {
		p := s.poly(n)
		expect(t, "Diff "+show(p), bernstein.Diff(p), max(0, n-1), func(x *big.Rat) *big.Rat { return slope(p, x) })
	}
}
