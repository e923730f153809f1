package roots_test

import (
	"math/big"
	"testing"

	"brepkernel/api"
	"brepkernel/bernstein"
	"brepkernel/rational"
	"brepkernel/roots"
)

// P6.5

func TestRefineOfExamples(t *testing.T) {
	for _, c := range []struct{ p, in, width, want string }{
		{"-1/2 0 1", "0 1", "1/8", "5/8 3/4"}, {"-1/2 0 1", "0 1", "1", "0 1"}, {"-1/2 0 1", "0 1", "7", "0 1"}, {"-1/2 0 1", "0 1", "999/1000", "1/2 1"},
		{"-1/2 0 1", "0 1", "1/2", "1/2 1"}, {"-1/2 0 1", "0 1", "499/1000", "1/2 3/4"}, {"-1/2 0 1", "1/3 5/6", "1/3", "7/12 5/6"},
		{"-3/4 1", "0 1", "1/1000", "3/4 3/4"}, {"-3/4 1", "0 1", "1/2", "1/2 1"}, {"-3/4 1", "0 1", "1/4", "3/4 3/4"}, {"-3/4 1", "0 1", "1/3", "3/4 3/4"},
		{"-1 2", "0 1", "1/2", "1/2 1/2"}, {"-1 2", "0 1", "1", "0 1"}, {"-1 2", "1/2 1/2", "1/99", "1/2 1/2"}, {"-1 2", "-5 5", "1/99", "255/512 65/128"},
		{"0 1", "0 0", "1", "0 0"}, {"0 1", "-1 1", "1", "0 0"}, {"0 1", "-1 2", "1", "-1/4 1/2"}, {"0 1", "-1 2", "1/8", "-1/16 1/32"},
		{"-2 0 1", "-2 0", "1/16", "-23/16 -11/8"}, {"-2 0 1", "0 100", "50", "0 50"}, {"1 -4 4", "0 1", "1/9", "1/2 1/2"}, {"1 -6 9", "0 1", "1/9", "5/16 3/8"},
		{"0 2 -9 9", "0 1/2", "1/100", "21/64 43/128"}, {"0 -1 0 1", "-1 1", "1", "0 0"}, {"0 -1/3 1", "0 1", "1/3", "1/4 1/2"},
		{"-1 2 0 0", "0 1", "1/4", "1/2 1/2"}, {"0 -1/3 4/3 -1", "0 1", "1/3", "1/4 1/2"},
	} {
		for _, times := range []int{0, 4, -3} {
			r, e := roots.Refine(poly(c.p), api.Root{In: span(c.in), Times: times}, num(c.width))
			what := "Refine(" + c.p + "; " + c.in + "; " + c.width + ")"
			expectError(t, what, e, api.OK)
			expectText(t, what, showSpan(r.In), c.want)
			if r.Times != times {
				t.Errorf("%s: Times is %d; expected %d", what, r.Times, times)
			}
		}
	}
}

// unfit returns polynomials and roots that do not fit, or are not valid, with the
// error that SignAt returns.
func unfit() []struct {
	p  string
	in api.Span
	e  api.Errno
} {
	one := rational.Int(1)
	return []struct {
		p  string
		in api.Span
		e  api.Errno
	}{
		{"0", span("0 0"), api.ErrZero}, {"0 0 0", span("0 1"), api.ErrZero}, {"0", span("1 0"), api.ErrZero}, {"-1/2 0 1", span("0 0"), api.ErrArg},
		{"-1/2 0 1", span("-1 1"), api.ErrArg}, {"-1/2 0 1", span("1 0"), api.ErrArg}, {"-1/2 0 1", span("0 1/2"), api.ErrArg}, {"-1/2 0 1", span("1 1"), api.ErrArg},
		{"3", span("0 1"), api.ErrArg}, {"3", span("0 0"), api.ErrArg}, {"0 -1 0 1", span("0 1"), api.ErrArg}, {"0 -1 0 1", span("-2 1"), api.ErrArg}, {"1 0 1", span("-9 9"), api.ErrArg},
		{"-1 2", span("1/2 1"), api.ErrArg}, {"-1 2", span("0 1/2"), api.ErrArg}, {"-1 2", span("1/3 1/3"), api.ErrArg},
		{"-1 2", api.Span{Lo: api.Rat{Neg: true}, Hi: one}, api.ErrArg}, {"-1 2", api.Span{Hi: api.Rat{Num: []uint32{1, 0}}}, api.ErrArg},
		{"-1 2", api.Span{Hi: api.Rat{Num: []uint32{2}, Den: []uint32{2}}}, api.ErrArg}, {"-1 2", api.Span{Lo: api.Rat{Num: []uint32{2}, Den: []uint32{4}}, Hi: num("1/2")}, api.ErrArg},
		{"-1 2", api.Span{Hi: api.Rat{Num: []uint32{1}, Den: []uint32{0}}}, api.ErrArg},
	}
}

func TestErrorsOfRefine(t *testing.T) {
	for _, c := range unfit() {
		for width, want := range map[string]api.Errno{"0": api.ErrRange, "-1": api.ErrRange, "1": c.e, "1/1000000": c.e} {
			r, e := roots.Refine(poly(c.p), api.Root{In: c.in, Times: 2}, num(width))
			what := "Refine(" + c.p + ") to " + width
			expectError(t, what, e, want)
			if r.Times != 0 || len(r.In.Lo.Num) > 0 || len(r.In.Hi.Num) > 0 {
				t.Errorf("%s has a result", what)
			}
		}
	}
	r := api.Root{In: span("0 1"), Times: 1}
	for _, width := range []string{"0", "-1/9"} {
		_, e := roots.Refine(poly("-1 2"), r, num(width))
		expectError(t, "Refine to "+width, e, api.ErrRange)
	}
}

func TestErrorsOfSignAt(t *testing.T) {
	for _, c := range unfit() {
		for _, q := range []string{"0", "1", "-1 2", "-1/2 0 1"} {
			n, e := roots.SignAt(poly(c.p), api.Root{In: c.in}, poly(q))
			expectError(t, "SignAt("+c.p+")", e, c.e)
			if n != 0 {
				t.Errorf("SignAt(%s) has a result", c.p)
			}
		}
	}
}

// someRoots returns the roots of p from 0 to 1, and, if that fits p, an interval that
// has roots at its ends.
func someRoots(p api.Poly) []api.Root {
	l, _ := roots.Isolate(p)
	for i := range l {
		in := api.Span{Hi: rational.Int(1)}
		if i > 0 && rational.Same(l[i-1].In.Lo, l[i-1].In.Hi) {
			in.Lo = l[i-1].In.Lo
		}
		if i+1 < len(l) && rational.Same(l[i+1].In.Lo, l[i+1].In.Hi) {
			in.Hi = l[i+1].In.Lo
		}
		if n, _ := roots.Count(p, in.Lo, in.Hi); n == 1 {
			l = append(l, api.Root{In: in, Times: i})
		}
	}
	return l
}

func modelRootOf(r api.Root) modelRoot {
	return modelRoot{low: exact(r.In.Lo), high: exact(r.In.Hi), times: r.Times}
}

func TestRefine(t *testing.T) {
	s := source(21)
	for _, p := range s.someFactors(5, 5) {
		p = product(p, s.rooted(2))
		for _, r := range someRoots(p) {
			for _, width := range []string{"1/2", "2/7", "1/4", "1/16", "1/100", "1/1000000007"} {
				got, e := roots.Refine(p, r, num(width))
				what := "Refine(" + show(p) + "; " + showSpan(r.In) + "; " + width + ")"
				expectError(t, what, e, api.OK)
				want := modelOf(p).refine(modelRootOf(r), exact(num(width)))
				expectText(t, what, modelRootOf(got).String(), want.String())
			}
		}
	}
}

// TestRefineFar takes widths that need thousands of halvings, and roots that are known:
// 1/3 and the root of 1/2. Where they are, their binary digits say.
func TestRefineFar(t *testing.T) {
	for _, n := range []int{1, 2, 3, 63, 64, 65, 1000, 4097, 6001} {
		scale := new(big.Int).Lsh(big.NewInt(1), uint(n))
		width := num("1")
		for range n {
			width = rational.Mul(width, num("1/2"))
		}
		third := new(big.Int).Div(scale, big.NewInt(3))
		root := new(big.Int).Sqrt(new(big.Int).Div(new(big.Int).Mul(scale, scale), big.NewInt(2)))
		for _, c := range []struct {
			p api.Poly
			j *big.Int
		}{
			{poly("-1 3"), third}, {power(poly("-1 3"), 7), third}, {product(poly("-1 3"), poly("10 7 9 1 0 0 7")), third}, {poly("-1/2 0 1"), root}, {poly("-1/32 0 0 0 0 0 0 0 0 0 1"), root},
		} {
			r, e := roots.Refine(c.p, api.Root{In: span("0 1")}, width)
			what := "Refine(" + show(c.p) + ") to 2^-" + big.NewInt(int64(n)).String()
			expectError(t, what, e, api.OK)
			low, high := new(big.Rat).SetFrac(c.j, scale), new(big.Rat).SetFrac(new(big.Int).Add(c.j, big.NewInt(1)), scale)
			if exact(r.In.Lo).Cmp(low) != 0 || exact(r.In.Hi).Cmp(high) != 0 {
				t.Errorf("%s: %s", what, showSpan(r.In))
			}
		}
		r, _ := roots.Refine(product(poly("-5 16"), poly("1 0 1")), api.Root{In: span("0 1")}, width)
		if n >= 4 {
			expectText(t, "Refine of a root that is a middle", showSpan(r.In), "5/16 5/16")
		}
	}
}

func TestSignAtOfExamples(t *testing.T) {
	for _, c := range []struct {
		p, in, q string
		want     int
	}{
		{"-1/2 0 1", "0 1", "-1/2 0 1", 0}, {"-1/2 0 1", "0 1", "0", 0}, {"-1/2 0 1", "0 1", "0 0 0", 0}, {"-1/2 0 1", "0 1", "-7/10 1", 1}, {"-1/2 0 1", "0 1", "-71/100 1", -1},
		{"-1/2 0 1", "0 1", "-1", -1}, {"-1/2 0 1", "0 1", "3", 1}, {"-1/2 0 1", "0 1", "3 0 0", 1}, {"-1/2 0 1", "0 1", "1/4 0 -1 0 1", 0}, {"-1/2 0 1", "0 1", "0 -1/2 1/100 1", 1},
		{"-1/2 0 1", "0 1", "0 1/2 -1/100 -1", -1}, {"-1/2 0 1", "-1 0", "0 1", -1}, {"-1/2 0 1", "-1 0", "7/10 1", -1}, {"-1/2 0 1", "-1 0", "71/100 1", 1},
		{"0 1", "0 0", "-3 1", -1}, {"0 1", "0 0", "3 1", 1}, {"0 1", "0 0", "0 1", 0}, {"0 1", "0 0", "0 0 5", 0}, {"0 1", "0 0", "0", 0}, {"0 1", "0 0", "-1", -1},
		{"0 1", "-1 2", "1/1000 1", 1}, {"0 1", "-1 2", "-1/1000 1", -1}, {"0 1", "-1 2", "0 1", 0}, {"0 1", "-1 1", "1/1000 1 1", 1},
		{"-1 2", "0 1", "-1 1", -1}, {"-1 2", "0 1", "-1 2", 0}, {"-1 2", "0 1", "1 -2", 0}, {"-1 2", "0 1", "0 -1 3 -2", 0}, {"-1 2", "0 1", "0 -1", -1}, {"-1 2", "0 1", "0 1 -1", 1},
		{"-1 2", "0 1", "-50000000001/100000000000 1", -1}, {"-1 2", "0 1", "-49999999999/100000000000 1", 1}, {"-1 3", "0 1", "-33333333333/100000000000 1", 1}, {"-1 3", "0 1", "-33333333334/100000000000 1", -1},
		{"1 -6 9", "0 1", "-1 3", 0}, {"1 -6 9", "0 1", "-1 2", -1}, {"0 -1 0 1", "-1 1", "-1 0 1", -1}, {"0 -1 0 1", "1 1", "-1 0 1", 0}, {"0 1/3 -4/3 1", "0 1", "0 1 -1", 1},
	} {
		n, e := roots.SignAt(poly(c.p), api.Root{In: span(c.in), Times: 3}, poly(c.q))
		what := "SignAt(" + c.p + "; " + c.in + "; " + c.q + ")"
		expectError(t, what, e, api.OK)
		if n != c.want {
			t.Errorf("%s = %d; expected %d", what, n, c.want)
		}
	}
}

func TestSignAt(t *testing.T) {
	s := source(22)
	for i, p := range s.someFactors(6, 4) {
		p = product(p, s.rooted(2))
		near := bernstein.Add(p, bernstein.Scale(num("1/10000000"), s.poly(2)))
		for _, r := range someRoots(p) {
			for _, q := range []api.Poly{s.poly(s.below(6)), s.rooted(3), product(p, s.poly(2)), product(s.other(1), s.rooted(i%3)), near, bernstein.Diff(p)} {
				n, e := roots.SignAt(p, r, q)
				want := modelOf(p).signAt(modelRootOf(r), modelOf(q))
				if n != want || e != api.OK {
					t.Fatalf("SignAt(%s; %s; %s) = %d, error %d; expected %d", show(p), showSpan(r.In), show(q), n, int(e), want)
				}
			}
		}
	}
}

// TestSignAtNearRoots takes a q whose root is nearer to that of p than a double number
// can tell.
func TestSignAtNearRoots(t *testing.T) {
	for _, n := range []int{10, 100, 1000} {
		small := num("1")
		for range n {
			small = rational.Mul(small, num("1/2"))
		}
		for _, p := range []api.Poly{poly("-1/2 0 1"), poly("-1 3"), power(poly("-3 8"), 2), poly("-1/32 0 0 0 0 0 0 0 0 0 1")} {
			free, _ := roots.SquareFree(p)
			for sign, q := range map[int]api.Poly{1: bernstein.Add(free, api.Poly{small}), -1: bernstein.Sub(free, api.Poly{small})} {
				got, e := roots.SignAt(p, api.Root{In: span("0 1")}, q)
				if got != sign || e != api.OK {
					t.Errorf("SignAt(%s) of a polynomial that is there %d 2^-%d = %d, error %d", show(p), sign, n, got, int(e))
				}
			}
		}
	}
}

// Consequence

func TestSignAtOfItself(t *testing.T) {
	s := source(23)
	for _, p := range s.someFactors(20, 10) {
		for _, r := range someRoots(p) {
			if n, e := roots.SignAt(p, r, p); n != 0 || e != api.OK {
				t.Errorf("SignAt(%s; %s) of itself = %d, error %d", show(p), showSpan(r.In), n, int(e))
			}
		}
	}
}
