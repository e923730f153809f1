package span_test

import (
	"math/big"
	"testing"

	"brepkernel/api"
	"brepkernel/rational"
	"brepkernel/span"
)

// source is a generator of numbers that are the same in every run.
type source uint64

func (s *source) next() uint64 {
	*s = *s*6364136223846793005 + 1442695040888963407
	x := uint64(*s)
	return (x ^ x>>29) * 0xbf58476d1ce4e5b9 >> 7
}

func (s *source) below(n int) int {
	return int(s.next() % uint64(n))
}

// number returns a small integer, often 0, or a fraction, sometimes a long one.
func (s *source) number() *big.Rat {
	num, den := big.NewInt(int64(s.below(9)-4)), big.NewInt(1)
	switch s.below(6) {
	case 0, 1, 2:
	case 3:
		den.SetInt64(int64(1 + s.below(9)))
	case 4:
		den.Lsh(den, uint(s.below(70)))
	default:
		num.Mul(num, new(big.Int).SetUint64(s.next()))
		num.Mul(num, new(big.Int).SetUint64(s.next()))
		den.Add(den, new(big.Int).SetUint64(s.next()))
	}
	return new(big.Rat).SetFrac(num, den)
}

// pair is the ends of a span.
type pair struct{ low, high *big.Rat }

func (s *source) pair() pair {
	a, b := s.number(), s.number()
	if s.below(6) == 0 {
		b = a
	}
	return hull(a, b)
}

// hull returns the least span that contains all the numbers.
func hull(all ...*big.Rat) pair {
	out := pair{all[0], all[0]}
	for _, x := range all {
		if x.Cmp(out.low) < 0 {
			out.low = x
		}
		if x.Cmp(out.high) > 0 {
			out.high = x
		}
	}
	return out
}

func (p pair) span() api.Span {
	return api.Span{Lo: rat(p.low), Hi: rat(p.high)}
}

// has reports whether the span contains x.
func (p pair) has(x *big.Rat) bool {
	return p.low.Cmp(x) <= 0 && x.Cmp(p.high) <= 0
}

// some returns numbers of the span: its ends, its middle and 0, if it is there.
func (p pair) some() []*big.Rat {
	mid := plus(p.low, p.high)
	out := []*big.Rat{p.low, p.high, mid.Quo(mid, big.NewRat(2, 1))}
	if p.has(new(big.Rat)) {
		out = append(out, new(big.Rat))
	}
	return out
}

func plus(x, y *big.Rat) *big.Rat  { return new(big.Rat).Add(x, y) }
func minus(x, y *big.Rat) *big.Rat { return new(big.Rat).Sub(x, y) }
func times(x, y *big.Rat) *big.Rat { return new(big.Rat).Mul(x, y) }
func over(x, y *big.Rat) *big.Rat  { return new(big.Rat).Quo(x, y) }

// twoTo returns a power of 2, the exponent of which may be negative.
func twoTo(n int) *big.Rat {
	out := new(big.Rat).SetInt(new(big.Int).Lsh(big.NewInt(1), uint(max(n, -n))))
	if n < 0 {
		out.Inv(out)
	}
	return out
}

// rat returns the valid number that is equal to x.
func rat(x *big.Rat) api.Rat {
	limbs := func(n *big.Int) []uint32 {
		var out []uint32
		for rest := new(big.Int).Abs(n); rest.Sign() > 0; rest.Rsh(rest, 32) {
			out = append(out, uint32(new(big.Int).And(rest, big.NewInt(1<<32-1)).Uint64()))
		}
		return out
	}
	out := api.Rat{Neg: x.Sign() < 0, Num: limbs(x.Num())}
	if !x.IsInt() {
		out.Den = limbs(x.Denom())
	}
	return out
}

// exact returns the number for which a valid r stands.
func exact(r api.Rat) *big.Rat {
	out, ok := new(big.Rat).SetString(rational.Text(r))
	if !ok {
		panic(rational.Text(r))
	}
	return out
}

// num reads a number.
func num(s string) *big.Rat {
	out, ok := new(big.Rat).SetString(s)
	if !ok {
		panic(s)
	}
	return out
}

func of(low, high string) api.Span {
	return pair{num(low), num(high)}.span()
}

func text(s api.Span) string {
	return rational.Text(s.Lo) + " " + rational.Text(s.Hi)
}

// expect compares the ends, and reports spans that are not valid.
func expect(t *testing.T, what string, got api.Span, want pair) {
	t.Helper()
	if wanted := want.span(); !same(got, wanted) {
		t.Fatalf("%s: %s; expected %s", what, text(got), text(wanted))
	}
}

// P3.1

func TestValid(t *testing.T) {
	long := twoTo(200)
	for _, s := range []api.Span{
		{}, of("0", "1"), of("-1", "0"), of("-2", "-1"), of("3", "3"), of("-1/3", "-1/3"), of("1/3", "1/2"), of("-1/2", "-1/3"),
		pair{num("1"), long}.span(), pair{new(big.Rat).Neg(long), num("0")}.span(),
		{Lo: api.Rat{Num: []uint32{}}, Hi: api.Rat{Den: []uint32{}}},
	} {
		if !span.Valid(s) {
			t.Errorf("Valid(%v) is false", s)
		}
	}
	wrong := []api.Rat{
		{Neg: true}, {Num: []uint32{0}}, {Num: []uint32{1, 0}}, {Den: []uint32{2}}, {Num: []uint32{1}, Den: []uint32{1}},
		{Num: []uint32{2}, Den: []uint32{4}}, {Num: []uint32{1}, Den: []uint32{0}}, {Num: []uint32{1}, Den: []uint32{3, 0}},
	}
	for _, r := range wrong {
		for _, s := range []api.Span{{Lo: r, Hi: rational.Int(9)}, {Lo: rational.Int(-9), Hi: r}, {Lo: r, Hi: r}} {
			if span.Valid(s) {
				t.Errorf("Valid(%v) is true", s)
			}
		}
	}
	for _, s := range []api.Span{of("1", "0"), of("0", "-1"), of("1/2", "1/3"), of("-1/3", "-1/2"), {Lo: rational.Int(1)}, {Hi: rational.Int(-1)}, pair{long, num("1")}.span()} {
		if span.Valid(s) {
			t.Errorf("Valid(%s) is true", text(s))
		}
	}
}

func TestPointAndOf(t *testing.T) {
	s := source(1)
	for range 300 {
		x, y := s.number(), s.number()
		expect(t, "Point", span.Point(rat(x)), pair{x, x})
		expect(t, "Of", span.Of(rat(x), rat(y)), hull(x, y))
		expect(t, "Of", span.Of(rat(y), rat(x)), hull(x, y))
		expect(t, "Of", span.Of(rat(x), rat(x)), pair{x, x})
	}
}

func TestSame(t *testing.T) {
	all := []api.Span{{}, of("0", "1"), of("0", "2"), of("1", "1"), of("1", "2"), of("-1", "1"), of("-1", "-1"), of("-1/2", "1/2"), of("1/2", "1/2")}
	for i, a := range all {
		for j, b := range all {
			if span.Same(a, b) != (i == j) {
				t.Errorf("Same(%s; %s) is %v", text(a), text(b), i != j)
			}
		}
	}
	filled := api.Span{Lo: api.Rat{Num: []uint32{}, Den: []uint32{}}, Hi: api.Rat{Num: []uint32{1}, Den: []uint32{}}}
	if !span.Same(filled, of("0", "1")) {
		t.Errorf("Same: nil lists and empty ones")
	}
}

func TestHullMeetInside(t *testing.T) {
	s := source(2)
	for range 2000 {
		a, b := s.pair(), s.pair()
		expect(t, "Hull", span.Hull(a.span(), b.span()), hull(a.low, a.high, b.low, b.high))
		common := pair{hull(a.low, b.low).high, hull(a.high, b.high).low}
		got, ok := span.Meet(a.span(), b.span())
		if common.low.Cmp(common.high) > 0 {
			if ok || !same(got, api.Span{}) {
				t.Fatalf("Meet(%s; %s) = %v, %v", text(a.span()), text(b.span()), got, ok)
			}
		} else {
			expect(t, "Meet", got, common)
			if !ok {
				t.Fatalf("Meet(%s; %s) is false", text(a.span()), text(b.span()))
			}
		}
		if got := span.Inside(a.span(), b.span()); got != (b.has(a.low) && b.has(a.high)) {
			t.Fatalf("Inside(%s; %s) is %v", text(a.span()), text(b.span()), got)
		}
	}
}

func TestMeetAtEnds(t *testing.T) {
	for _, c := range []struct {
		a, b, want api.Span
		ok         bool
	}{
		{of("0", "1"), of("1", "2"), of("1", "1"), true},
		{of("1", "2"), of("0", "1"), of("1", "1"), true},
		{of("0", "1"), of("3/2", "2"), api.Span{}, false},
		{of("3/2", "2"), of("0", "1"), api.Span{}, false},
		{of("1", "1"), of("1", "1"), of("1", "1"), true},
		{of("1", "1"), of("0", "2"), of("1", "1"), true},
		{of("-3", "3"), of("-1", "2"), of("-1", "2"), true},
	} {
		if got, ok := span.Meet(c.a, c.b); !same(got, c.want) || ok != c.ok {
			t.Errorf("Meet(%s; %s) = %s, %v", text(c.a), text(c.b), text(got), ok)
		}
	}
}

func TestHas(t *testing.T) {
	s := source(3)
	for range 1000 {
		a, x := s.pair(), s.number()
		if got := span.Has(a.span(), rat(x)); got != a.has(x) {
			t.Fatalf("Has(%s; %s) is %v", text(a.span()), x, got)
		}
		if !span.Has(a.span(), rat(a.low)) || !span.Has(a.span(), rat(a.high)) {
			t.Fatalf("Has(%s) does not have the ends", text(a.span()))
		}
	}
}

func TestWidthMidHalves(t *testing.T) {
	s := source(4)
	for range 1000 {
		a := s.pair()
		mid := over(plus(a.low, a.high), num("2"))
		if got := span.Width(a.span()); exact(got).Cmp(minus(a.high, a.low)) != 0 {
			t.Fatalf("Width(%s) = %s", text(a.span()), rational.Text(got))
		}
		if got := span.Mid(a.span()); exact(got).Cmp(mid) != 0 {
			t.Fatalf("Mid(%s) = %s", text(a.span()), rational.Text(got))
		}
		lower, upper := span.Halves(a.span())
		expect(t, "lower half", lower, pair{a.low, mid})
		expect(t, "upper half", upper, pair{mid, a.high})
	}
}

// P3.3

func TestSign(t *testing.T) {
	for _, c := range []struct {
		s    api.Span
		sign int
		sure bool
	}{
		{of("1", "2"), 1, true}, {of("1/99", "1/99"), 1, true},
		{of("-2", "-1"), -1, true}, {of("-1/99", "-1/99"), -1, true},
		{of("0", "0"), 0, true},
		{of("0", "1"), 0, false}, {of("-1", "0"), 0, false}, {of("-1", "1"), 0, false}, {of("-1/2", "1/3"), 0, false},
	} {
		if sign, sure := span.Sign(c.s); sign != c.sign || sure != c.sure {
			t.Errorf("Sign(%s) = %d, %v", text(c.s), sign, sure)
		}
	}
}
