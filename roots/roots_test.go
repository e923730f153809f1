package roots_test

import (
	"math/big"
	"strings"
	"testing"

	"brepkernel/api"
	"brepkernel/bernstein"
	"brepkernel/rational"
	"brepkernel/roots"
)

// P6.3

func TestCountOfExamples(t *testing.T) {
	for _, c := range []struct {
		p, in string
		want  int
		e     api.Errno
	}{
		{"-2 0 1", "-2 2", 2, api.OK}, {"-2 0 1", "0 2", 1, api.OK}, {"-2 0 1", "7/5 3/2", 1, api.OK}, {"-2 0 1", "3/2 9", 0, api.OK},
		{"0 -1 0 1", "-1 1", 1, api.OK}, {"0 -1 0 1", "-2 1", 2, api.OK}, {"0 -1 0 1", "-1 2", 2, api.OK}, {"0 -1 0 1", "-2 2", 3, api.OK},
		{"0 -1 0 1", "0 1", 0, api.OK}, {"0 -1 0 1", "-1 0", 0, api.OK}, {"0 -1 0 1", "-2 0", 1, api.OK}, {"0 -1 0 1", "-2 -1", 0, api.OK},
		{"0 -1 0 1", "0 0", 0, api.OK}, {"0 -1 0 1", "1 1", 0, api.OK}, {"0 -1 0 1", "1/2 1/2", 0, api.OK}, {"5", "1 1", 0, api.OK},
		{"5", "0 1", 0, api.OK}, {"-5 0 0", "-9 9", 0, api.OK}, {"1 0 1", "-9 9", 0, api.OK}, {"1 -2 1", "0 2", 1, api.OK}, {"0 0 0 0 3", "-1 1", 1, api.OK},
		{"-1 2", "0 1", 1, api.OK}, {"-1 2", "1/2 1", 0, api.OK}, {"-1 2", "0 1/2", 0, api.OK}, {"-1 2 0 0", "0 1", 1, api.OK},
		{"1 1 1", "-1 1", 0, api.OK}, {"13/48 -1 1", "0 1", 0, api.OK}, {"11/48 -1 1", "0 1", 2, api.OK}, {"1/4 -1 1", "0 1", 1, api.OK},
		{"-2 0 1", "-1267650600228229401496703205376 1267650600228229401496703205376", 2, api.OK},
		{"-1 1267650600228229401496703205376", "0 1", 1, api.OK}, {"-1267650600228229401496703205376 1", "0 1", 0, api.OK},
		{"0 -1 0 1", "1 0", 0, api.ErrRange}, {"0 -1 0 1", "0 -1/1000000", 0, api.ErrRange}, {"5", "2 1", 0, api.ErrRange},
		{"0", "1 0", 0, api.ErrZero}, {"0", "0 1", 0, api.ErrZero}, {"0 0 0", "0 0", 0, api.ErrZero},
	} {
		in := span(c.in)
		n, e := roots.Count(poly(c.p), in.Lo, in.Hi)
		if n != c.want || e != c.e {
			t.Errorf("Count(%s; %s) = %d, error %d; expected %d, error %d", c.p, c.in, n, int(e), c.want, int(c.e))
		}
	}
}

func TestCount(t *testing.T) {
	s := source(11)
	for _, p := range s.someFactors(30, 9) {
		count := modelOf(p).counter()
		for range 8 {
			a, b := s.end(), s.end()
			if rational.Cmp(a, b) > 0 {
				a, b = b, a
			}
			n, e := roots.Count(p, a, b)
			if want := count(exact(a), exact(b)); n != want || e != api.OK {
				t.Fatalf("Count(%s; %s; %s) = %d, error %d; expected %d", show(p), rational.Text(a), rational.Text(b), n, int(e), want)
			}
		}
	}
}

// end returns a number that is often a root of what rooted returns.
func (s *source) end() api.Rat {
	if s.below(3) == 0 {
		return s.number()
	}
	out, _ := rational.Make(int64(s.below(21)-2), 16)
	return out
}

// P6.4

func TestIsolateOfExamples(t *testing.T) {
	for _, c := range []struct {
		p    api.Poly
		want string
	}{
		{poly("-1/4 0 1"), "(0 1)1"}, {poly("-1/2 0 1"), "(0 1)1"}, {poly("0 1 -4 4"), "(0 0)1 (0 1)2"}, {poly("1 -6 8"), "(0 1/2)1 (1/2 1/2)1"},
		{poly("0 -1 1"), "(0 0)1 (1 1)1"}, {poly("3 -16 16"), "(0 1/2)1 (1/2 1)1"}, {poly("2 -9 9"), "(0 1/2)1 (1/2 1)1"}, {poly("1 -5 6"), "(0 1/2)1 (1/2 1/2)1"},
		{poly("1 0 1"), ""}, {poly("7"), ""}, {poly("-7 0 0 0"), ""}, {poly("-1/27 1/3 -1 1"), "(0 1)3"}, {poly("-1 2"), "(0 1)1"}, {poly("-1 2 0 0"), "(0 1)1"},
		{poly("0 1"), "(0 0)1"}, {poly("-1 1"), "(1 1)1"}, {poly("1 1"), ""}, {poly("-2 1"), ""}, {poly("0 0 0 -2"), "(0 0)3"},
		{poly("1 -4 6 -4 1"), "(1 1)4"}, {product(factor(num("0")), factor(num("1/3")), factor(num("1"))), "(0 0)1 (0 1)1 (1 1)1"},
		{product(factor(num("1/4")), factor(num("1/2")), factor(num("3/4"))), "(0 1/2)1 (1/2 1/2)1 (1/2 1)1"},
		{product(factor(num("1/4")), factor(num("1/2")), factor(num("1/2")), factor(num("3/4"))), "(0 1/2)1 (1/2 1/2)2 (1/2 1)1"},
		{product(factor(num("1/4")), factor(num("3/8"))), "(1/4 1/4)1 (1/4 1/2)1"},
		{product(factor(num("1/8")), factor(num("3/8"))), "(0 1/4)1 (1/4 1/2)1"},
		{product(factor(num("1/3")), factor(num("2/5"))), "(1/4 3/8)1 (3/8 1/2)1"},
		{product(factor(num("5/8")), factor(num("3/4"))), "(1/2 3/4)1 (3/4 3/4)1"},
		{product(power(factor(num("1/3")), 13), power(factor(num("2/3")), 9), power(poly("1 1 1"), 8)), "(0 1/2)13 (1/2 1)9"},
		{power(poly("-1 2"), api.MaxPoly), "(0 1)40"}, {power(poly("-1 0 2"), api.MaxPoly/2), "(0 1)20"},
		{product(factor(num("-1/2")), factor(num("3/2"))), ""}, {product(factor(num("-1/2")), factor(num("1/2")), factor(num("3/2"))), "(0 1)1"},
	} {
		l, e := roots.Isolate(c.p)
		what := "Isolate(" + show(c.p) + ")"
		expectError(t, what, e, api.OK)
		expectText(t, what, showRoots(l), c.want)
	}
	for _, zero := range []string{"0", "0 0", "0 0 0 0"} {
		l, e := roots.Isolate(poly(zero))
		expectError(t, "Isolate of 0", e, api.ErrZero)
		if len(l) > 0 {
			t.Errorf("Isolate(%s) has results", zero)
		}
	}
}

func TestIsolate(t *testing.T) {
	s := source(12)
	for _, p := range s.someFactors(20, 7) {
		checkIsolate(t, p)
		checkIsolate(t, product(p, factor(rational.Int(0)), factor(rational.Int(1))))
	}
}

func checkIsolate(t *testing.T, p api.Poly) {
	t.Helper()
	m := modelOf(p)
	var want []string
	for _, r := range m.isolate() {
		r.times = m.multiplicity(r)
		want = append(want, r.String())
	}
	l, e := roots.Isolate(p)
	what := "Isolate(" + show(p) + ")"
	expectError(t, what, e, api.OK)
	expectText(t, what, showRoots(l), strings.Join(want, " "))
}

// TestIsolateManyRoots takes as many roots as there can be, and roots that are close
// together, to one another and to others that are not real.
func TestIsolateManyRoots(t *testing.T) {
	many := product()
	for i := range api.MaxPoly {
		r, _ := rational.Make(int64(i+1), api.MaxPoly+1)
		many = product(many, factor(r))
	}
	checkIsolate(t, many)
	close := poly("1/3 -1")
	square := product(close, close)
	for _, n := range []int{10, 50, 200} {
		small := rational.Int(1)
		for range n {
			small = rational.Mul(small, num("1/4"))
		}
		apart := bernstein.Sub(square, api.Poly{small}) // 1/3 and 2^-n
		checkIsolate(t, apart)
		checkIsolate(t, product(apart, apart, close))
		checkIsolate(t, product(bernstein.Add(square, api.Poly{small}), close))
		checkIsolate(t, bernstein.Add(square, api.Poly{small}))
	}
}

// Consequences

func TestIsolateIsComplete(t *testing.T) {
	s := source(13)
	zero, one := rational.Int(0), rational.Int(1)
	for _, p := range s.someFactors(60, 12) {
		what := "Isolate(" + show(p) + ")"
		l, e := roots.Isolate(p)
		expectError(t, what, e, api.OK)
		want, _ := roots.Count(p, zero, one)
		for _, end := range []api.Rat{zero, one} {
			if rational.Sign(bernstein.Eval(p, end)) == 0 {
				want++
			}
		}
		if len(l) != want {
			t.Errorf("%s has %d elements; expected %d", what, len(l), want)
		}
		free, _ := roots.SquareFree(p)
		sum := 0
		for i, r := range l {
			sum += r.Times
			if r.Times < 1 || i > 0 && (rational.Cmp(l[i-1].In.Hi, r.In.Lo) > 0 || rational.Cmp(l[i-1].In.Lo, r.In.Lo) >= 0 && rational.Same(r.In.Lo, r.In.Hi)) {
				t.Errorf("%s: %s is not in order", what, showRoots(l))
			}
			checkSignChange(t, what, free, r.In)
		}
		if sum > len(bernstein.Trim(p))-1 {
			t.Errorf("%s: %s are more roots than the degree says", what, showRoots(l))
		}
	}
}

// checkSignChange looks at the signs behind the lower end and before the upper one,
// where there may be other roots.
func checkSignChange(t *testing.T, what string, free api.Poly, in api.Span) {
	t.Helper()
	if rational.Same(in.Lo, in.Hi) {
		if rational.Sign(bernstein.Eval(free, in.Lo)) != 0 || rational.Sign(bernstein.Eval(bernstein.Diff(free), in.Lo)) == 0 {
			t.Errorf("%s: %s is no simple root", what, showSpan(in))
		}
		return
	}
	m, low, high := modelOf(free), exact(in.Lo), exact(in.Hi)
	first, last := m.at(low).Sign(), m.at(high).Sign()
	if first == 0 {
		first = m.slope().at(low).Sign()
	}
	if last == 0 {
		last = -m.slope().at(high).Sign()
	}
	if first*last != -1 {
		t.Errorf("%s: there is no change of sign in %s", what, showSpan(in))
	}
}

// TestRootsAreTheirs takes products of factors, the real roots of which are known.
func TestRootsAreTheirs(t *testing.T) {
	s := source(14)
	for range 60 {
		p := product(poly("2 1 1"))
		times := map[string]int{}
		for range s.below(9) {
			a, _ := rational.Make(int64(s.below(13)-3), int64(4+s.below(6)))
			p = product(p, factor(a))
			if x := exact(a); x.Sign() >= 0 && x.Cmp(big.NewRat(1, 1)) <= 0 {
				times[rational.Text(a)]++
			}
		}
		l, _ := roots.Isolate(p)
		if len(l) != len(times) {
			t.Fatalf("Isolate(%s) has %d elements; expected %d", show(p), len(l), len(times))
		}
		for text, n := range times {
			found := 0
			for _, r := range l {
				if low, high := rational.Cmp(r.In.Lo, num(text)), rational.Cmp(num(text), r.In.Hi); low < 0 && high < 0 || low == 0 && high == 0 {
					found += r.Times
				}
			}
			if found != n {
				t.Errorf("Isolate(%s) has the root %s %d times; expected %d", show(p), text, found, n)
			}
		}
	}
}
