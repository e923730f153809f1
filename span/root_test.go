package span_test

import (
	"math"
	"math/big"
	"testing"

	"brepkernel/api"
	"brepkernel/span"
)

// P3.4

func TestRound(t *testing.T) {
	s := source(11)
	for range 1000 {
		a, k := s.pair(), s.below(80)
		scale := twoTo(k)
		down := func(x *big.Rat) *big.Rat {
			y := times(x, scale)
			return over(new(big.Rat).SetInt(new(big.Int).Div(y.Num(), y.Denom())), scale)
		}
		up := func(x *big.Rat) *big.Rat {
			return new(big.Rat).Neg(down(new(big.Rat).Neg(x)))
		}
		expect(t, "Round", span.Round(a.span(), k), pair{down(a.low), up(a.high)})
	}
	if got := text(span.Round(of("-1/3", "1/3"), 2)); got != "-1/2 1/2" {
		t.Errorf("Round(-1/3, 1/3) = %s", got)
	}
}

// floorRoot returns the greatest multiple of 2^-k whose square is at most x.
func floorRoot(x *big.Rat, k int) *big.Rat {
	if x.Sign() < 0 {
		return new(big.Rat)
	}
	y := times(x, twoTo(2*k))
	n := new(big.Int).Div(y.Num(), y.Denom())
	return times(new(big.Rat).SetInt(n.Sqrt(n)), twoTo(-k))
}

// ceilRoot returns the least multiple of 2^-k from 0 on whose square is at least x.
func ceilRoot(x *big.Rat, k int) *big.Rat {
	y := floorRoot(x, k)
	if times(y, y).Cmp(x) < 0 {
		return plus(y, twoTo(-k))
	}
	return y
}

func checkRoot(t *testing.T, a pair, k int) {
	t.Helper()
	got, e := span.Root(a.span(), k)
	if a.high.Sign() < 0 {
		if e != api.ErrRange || !same(got, api.Span{}) {
			t.Fatalf("Root(%s) = %v, %d", text(a.span()), got, e)
		}
		return
	}
	places := max(0, min(api.MaxScale, k))
	expect(t, "Root("+text(a.span())+")", got, pair{floorRoot(a.low, places), ceilRoot(a.high, places)})
	if e != api.OK {
		t.Fatalf("Root(%s): error %d", text(a.span()), e)
	}
}

func TestRoot(t *testing.T) {
	s := source(12)
	for range 3000 {
		a := s.pair()
		checkRoot(t, a, s.below(100)-3)
		squares := hull(times(a.low, a.low), times(a.high, a.high))
		checkRoot(t, squares, s.below(100))
	}
}

func TestRootAtEdges(t *testing.T) {
	for _, a := range edges() {
		for _, k := range []int{math.MinInt, -1, 0, 1, 2, 31, 32, 33, 64, 65} {
			checkRoot(t, a, k)
		}
	}
	tiny, huge := twoTo(-1000), twoTo(1001)
	for _, x := range []*big.Rat{
		tiny, plus(tiny, times(tiny, tiny)), minus(tiny, times(tiny, tiny)), over(tiny, num("3")),
		huge, plus(huge, num("1")), minus(huge, num("1")), over(huge, num("7")), times(huge, huge), plus(times(huge, huge), tiny), minus(times(huge, huge), tiny),
		num("1"), plus(num("1"), tiny), minus(num("1"), tiny), num("4294967295"), num("18446744065119617025"), num("18446744073709551615"), num("18446744073709551616"),
	} {
		for _, k := range []int{0, 1, 63, 499, 500, 501, 1000} {
			checkRoot(t, pair{x, x}, k)
			checkRoot(t, pair{new(big.Rat), x}, k)
		}
	}
}

// The squares of neighbours, and numbers just beside squares.
func TestRootOfSquares(t *testing.T) {
	for n := range int64(200) {
		for k := range 4 {
			x := over(big.NewRat(n, 1), twoTo(k))
			square := times(x, x)
			checkRoot(t, pair{square, square}, k)
			for _, gap := range []*big.Rat{twoTo(-40), twoTo(-2 * k)} {
				checkRoot(t, pair{minus(square, gap), plus(square, gap)}, k)
				checkRoot(t, pair{plus(square, gap), plus(square, gap)}, k)
			}
		}
	}
}

func TestRootPlacesAreLimited(t *testing.T) {
	two := of("2", "2")
	most, e := span.Root(two, api.MaxScale)
	expect(t, "Root", most, pair{floorRoot(num("2"), api.MaxScale), ceilRoot(num("2"), api.MaxScale)})
	for _, k := range []int{api.MaxScale + 1, math.MaxInt} {
		if got, again := span.Root(two, k); !same(got, most) || e != api.OK || again != api.OK {
			t.Errorf("Root(2) for %d: %d, %d", k, e, again)
		}
		third := of("-1/3", "1/3")
		if got := span.Round(third, k); !same(got, span.Round(third, api.MaxScale)) {
			t.Errorf("Round(1/3) for %d", k)
		}
	}
	for _, k := range []int{-1, math.MinInt} {
		if got, _ := span.Root(two, k); text(got) != "1 2" {
			t.Errorf("Root(2) for %d: %s", k, text(got))
		}
		if got := span.Round(of("-1/3", "1/3"), k); text(got) != "-1 1" {
			t.Errorf("Round for %d: %s", k, text(got))
		}
	}
}

func TestRootOfExamples(t *testing.T) {
	for _, c := range []struct {
		s    api.Span
		k    int
		want string
		e    api.Errno
	}{
		{of("2", "2"), 2, "5/4 3/2", api.OK},
		{of("-1", "2"), 0, "0 2", api.OK},
		{of("-1", "0"), 3, "0 0", api.OK},
		{of("-2", "-1"), 3, "0 0", api.ErrRange},
		{of("-1/8", "-1/8"), 0, "0 0", api.ErrRange},
	} {
		if got, e := span.Root(c.s, c.k); text(got) != c.want || e != c.e {
			t.Errorf("Root(%s, %d) = %s, %d", text(c.s), c.k, text(got), e)
		}
	}
}
