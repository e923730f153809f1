package rational_test

import (
	"math"
	"math/big"
	"slices"
	"testing"

	"brepkernel/api"
	"brepkernel/rational"
)

const top = 1<<32 - 1 // the greatest limb

// source is a generator of numbers that are the same in every run.
type source uint64

func (s *source) next() uint64 {
	*s = *s*6364136223846793005 + 1442695040888963407
	x := uint64(*s)
	return (x ^ x>>29) * 0xbf58476d1ce4e5b9 >> 7
}

func (s *source) below(n int) int {
	return int(s.next() % uint64(n))
}

// limb prefers the limbs at which carries go wrong.
func (s *source) limb() uint32 {
	switch s.below(8) {
	case 0:
		return 0
	case 1:
		return top
	case 2:
		return 1 << 31
	case 3:
		return uint32(s.below(12))
	}
	return uint32(s.next())
}

// integer returns one of less than n limbs that is not negative.
func (s *source) integer(n int) *big.Int {
	var limbs []uint32
	for range s.below(n) {
		limbs = append(limbs, s.limb())
	}
	return value(limbs)
}

// number returns a number of less than n limbs: an integer, one with a power of
// 2 as its denominator, or any other.
func (s *source) number(n int) *big.Rat {
	num, den := s.integer(n), big.NewInt(1)
	switch s.below(4) {
	case 0:
	case 1:
		den.Lsh(den, uint(s.below(32*n)))
	default:
		den.Add(den, s.integer(n))
	}
	if s.below(2) == 0 {
		num.Neg(num)
	}
	return new(big.Rat).SetFrac(num, den)
}

// value returns the integer for which limbs stand.
func value(limbs []uint32) *big.Int {
	n := new(big.Int)
	for i := len(limbs) - 1; i >= 0; i-- {
		n.Lsh(n, 32)
		n.Add(n, new(big.Int).SetUint64(uint64(limbs[i])))
	}
	return n
}

// limbs returns the magnitude of n.
func limbs(n *big.Int) []uint32 {
	var out []uint32
	for rest := new(big.Int).Abs(n); rest.Sign() > 0; rest.Rsh(rest, 32) {
		out = append(out, uint32(new(big.Int).And(rest, big.NewInt(top)).Uint64()))
	}
	return out
}

// rat returns the valid number that is equal to x.
func rat(x *big.Rat) api.Rat {
	out := api.Rat{Neg: x.Sign() < 0, Num: limbs(x.Num())}
	if !x.IsInt() {
		out.Den = limbs(x.Denom())
	}
	return out
}

// of returns the number n / d.
func of(n, d int64) api.Rat {
	return rat(big.NewRat(n, d))
}

// twoTo returns a power of 2, the exponent of which may be negative.
func twoTo(n int) *big.Rat {
	power := new(big.Int).Lsh(big.NewInt(1), uint(max(n, -n)))
	out := new(big.Rat).SetInt(power)
	if n < 0 {
		out.Inv(out)
	}
	return out
}

func equal(a, b api.Rat) bool {
	return a.Neg == b.Neg && slices.Equal(a.Num, b.Num) && slices.Equal(a.Den, b.Den)
}

func isZeroValue(r api.Rat) bool {
	return !r.Neg && len(r.Num) == 0 && len(r.Den) == 0
}

func expect(t *testing.T, what string, got api.Rat, want *big.Rat) {
	t.Helper()
	if !equal(got, rat(want)) {
		t.Fatalf("%s = %v; expected %v, which is %s", what, got, rat(want), want.RatString())
	}
}

// P2.1

func TestValid(t *testing.T) {
	for _, r := range []api.Rat{
		{}, {Num: []uint32{}, Den: []uint32{}}, {Num: []uint32{1}}, {Neg: true, Num: []uint32{1}}, {Num: []uint32{0, 1}},
		{Num: []uint32{1}, Den: []uint32{2}}, {Num: []uint32{1}, Den: []uint32{0, 1}}, {Neg: true, Num: []uint32{9}, Den: []uint32{4}},
		{Num: []uint32{1, 1}, Den: []uint32{0, 1}}, {Num: []uint32{top, top, top}, Den: []uint32{0, 0, 1}}, {Num: []uint32{7}, Den: []uint32{5, 0, 0, 1}},
	} {
		if !rational.Valid(r) {
			t.Errorf("Valid(%v) is false", r)
		}
	}
	for _, r := range []api.Rat{
		{Neg: true}, {Neg: true, Num: []uint32{}}, // -0
		{Num: []uint32{0}}, {Num: []uint32{1, 0}}, {Num: []uint32{0, 0}, Den: []uint32{2}}, // no magnitudes
		{Num: []uint32{1}, Den: []uint32{0}}, {Num: []uint32{1}, Den: []uint32{3, 0}}, {Den: []uint32{0}},
		{Num: []uint32{1}, Den: []uint32{1}}, {Num: []uint32{0, 1}, Den: []uint32{1}}, {Den: []uint32{1}}, // the denominator 1
		{Den: []uint32{2}}, {Den: []uint32{0, 1}}, // 0 and a denominator
		{Num: []uint32{2}, Den: []uint32{2}}, {Num: []uint32{6}, Den: []uint32{4}}, {Num: []uint32{0, 1}, Den: []uint32{2}},
		{Num: []uint32{15, 15, 15}, Den: []uint32{0, 0, 0, 5}}, {Neg: true, Num: []uint32{3}, Den: []uint32{0, 3}}, // a common divisor
	} {
		if rational.Valid(r) {
			t.Errorf("Valid(%v) is true", r)
		}
	}
}

func TestNorm(t *testing.T) {
	long := []uint32{3, 1, 1 << 31}
	for _, c := range []struct{ r, want api.Rat }{
		{api.Rat{}, api.Rat{}},
		{api.Rat{Neg: true}, api.Rat{}},
		{api.Rat{Neg: true, Num: []uint32{0, 0}, Den: []uint32{0, 7, 0}}, api.Rat{}},
		{api.Rat{Num: []uint32{5}, Den: []uint32{1, 0, 0}}, of(5, 1)},
		{api.Rat{Neg: true, Num: []uint32{6, 0}, Den: []uint32{4}}, of(-3, 2)},
		{api.Rat{Num: long, Den: long}, of(1, 1)},
		{api.Rat{Num: append([]uint32{0, 0}, long...), Den: append([]uint32{0}, long...)}, api.Rat{Num: []uint32{0, 1}}},
		{api.Rat{Neg: true, Num: []uint32{1}, Den: []uint32{0, 1, 0}}, api.Rat{Neg: true, Num: []uint32{1}, Den: []uint32{0, 1}}},
	} {
		if got, e := rational.Norm(c.r); !equal(got, c.want) || e != api.OK {
			t.Errorf("Norm(%v) = %v, %d; expected %v", c.r, got, e, c.want)
		}
	}
	for _, den := range [][]uint32{{0}, {0, 0}, make([]uint32, 100)} {
		for _, num := range [][]uint32{nil, {0}, {1}, long} {
			if got, e := rational.Norm(api.Rat{Neg: true, Num: num, Den: den}); !isZeroValue(got) || e != api.ErrZero {
				t.Errorf("Norm(%v / %v) = %v, %d", num, den, got, e)
			}
		}
	}
}

func TestNormOfAnyLimbs(t *testing.T) {
	s := source(1)
	list := func() []uint32 {
		var out []uint32
		for range s.below(6) {
			out = append(out, s.limb())
		}
		return out
	}
	for range 5000 {
		r := api.Rat{Neg: s.below(2) == 0, Num: list(), Den: list()}
		num, den := value(r.Num), value(r.Den)
		if len(r.Den) == 0 {
			den.SetInt64(1)
		}
		got, e := rational.Norm(r)
		if den.Sign() == 0 {
			if !isZeroValue(got) || e != api.ErrZero {
				t.Fatalf("Norm(%v) = %v, %d", r, got, e)
			}
			continue
		}
		if r.Neg {
			num.Neg(num)
		}
		expect(t, "Norm", got, new(big.Rat).SetFrac(num, den))
		if e != api.OK || !rational.Valid(got) || rational.Valid(r) != equal(r, got) {
			t.Fatalf("Norm(%v) = %v, %d; Valid: %v", r, got, e, rational.Valid(r))
		}
	}
}

func TestMakeAndInt(t *testing.T) {
	numbers := []int64{0, 1, -1, 2, -2, 6, -4, 35, top, -top, 1 << 32, -1 << 32, 1 << 62, math.MaxInt64, math.MinInt64, math.MinInt64 + 1}
	for _, n := range numbers {
		expect(t, "Int", rational.Int(n), new(big.Rat).SetInt64(n))
		for _, d := range numbers {
			got, e := rational.Make(n, d)
			if d == 0 {
				if !isZeroValue(got) || e != api.ErrZero {
					t.Errorf("Make(%d, 0) = %v, %d", n, got, e)
				}
				continue
			}
			expect(t, "Make", got, big.NewRat(n, 1).Quo(big.NewRat(n, 1), big.NewRat(d, 1)))
			if e != api.OK {
				t.Errorf("Make(%d, %d): error %d", n, d, e)
			}
		}
	}
	if r, e := rational.Make(6, -4); rational.Text(r) != "-3/2" || e != api.OK {
		t.Errorf("Make(6, -4) = %s, %d", rational.Text(r), e)
	}
}

// P2.2

// checkPair compares all operations on two numbers with those of math/big.
func checkPair(t *testing.T, x, y *big.Rat) {
	t.Helper()
	a, b := rat(x), rat(y)
	total := new(big.Rat).Add(x, y)
	expect(t, "Add", rational.Add(a, b), total)
	expect(t, "Sub", rational.Sub(a, b), new(big.Rat).Sub(x, y))
	expect(t, "Mul", rational.Mul(a, b), new(big.Rat).Mul(x, y))
	expect(t, "Mid", rational.Mid(a, b), new(big.Rat).Quo(total, big.NewRat(2, 1)))
	expect(t, "Neg", rational.Neg(a), new(big.Rat).Neg(x))
	expect(t, "Abs", rational.Abs(a), new(big.Rat).Abs(x))
	lesser, greater := x, y
	if x.Cmp(y) > 0 {
		lesser, greater = y, x
	}
	expect(t, "Min", rational.Min(a, b), lesser)
	expect(t, "Max", rational.Max(a, b), greater)
	if rational.Cmp(a, b) != x.Cmp(y) || rational.Same(a, b) != (x.Cmp(y) == 0) || rational.Sign(a) != x.Sign() {
		t.Fatalf("Cmp(%v, %v) = %d, Same %v, Sign %d", a, b, rational.Cmp(a, b), rational.Same(a, b), rational.Sign(a))
	}
	q, e := rational.Quo(a, b)
	if y.Sign() == 0 {
		if !isZeroValue(q) || e != api.ErrZero {
			t.Fatalf("Quo(%v, 0) = %v, %d", a, q, e)
		}
		return
	}
	expect(t, "Quo", q, new(big.Rat).Quo(x, y))
	if e != api.OK {
		t.Fatalf("Quo(%v, %v): error %d", a, b, e)
	}
}

// The numbers with parts at which sums and products leave a limb, or two.
func TestPairsAtEdges(t *testing.T) {
	parts := []*big.Int{big.NewInt(1), big.NewInt(2), big.NewInt(3), big.NewInt(6)}
	for _, n := range []uint{31, 32, 33, 63, 64, 65, 96} {
		power := new(big.Int).Lsh(big.NewInt(1), n)
		parts = append(parts, power, new(big.Int).Sub(power, big.NewInt(1)))
	}
	all := []*big.Rat{new(big.Rat)}
	for _, n := range parts {
		for _, d := range parts {
			all = append(all, new(big.Rat).SetFrac(n, d), new(big.Rat).SetFrac(new(big.Int).Neg(n), d))
		}
	}
	for i, x := range all {
		for j, y := range all {
			if (i+j)%3 == 0 || x.Cmp(y) == 0 {
				checkPair(t, x, y)
			}
		}
	}
}

func TestPairs(t *testing.T) {
	s := source(2)
	for range 4000 {
		x, y, z := s.number(8), s.number(8), s.number(3)
		checkPair(t, x, y)
		checkPair(t, x, z)
		checkPair(t, new(big.Rat).Mul(x, z), new(big.Rat).Mul(y, z))
		// Numbers that cancel: opposite ones, inverse ones, and ones with a sum that has a small denominator.
		checkPair(t, x, new(big.Rat).Neg(x))
		checkPair(t, x, new(big.Rat).Sub(z, x))
		if x.Sign() != 0 {
			checkPair(t, x, new(big.Rat).Inv(x))
		}
		// Numbers that nearly are equal.
		checkPair(t, x, new(big.Rat).Add(x, twoTo(-s.below(400))))
	}
	for range 30 {
		checkPair(t, s.number(150), s.number(150))
	}
}

// Powers of 2 that are farther apart than natural.Shift goes.
func TestFarPowers(t *testing.T) {
	far := 9 * api.MaxBits
	for _, x := range []*big.Rat{twoTo(far), twoTo(-far), new(big.Rat).Mul(twoTo(-far), big.NewRat(5, 3))} {
		for _, y := range []*big.Rat{big.NewRat(-1, 2), big.NewRat(7, 3), twoTo(far), twoTo(-far - 1)} {
			checkPair(t, x, y)
			checkPair(t, y, x)
		}
	}
}

// P2.3

func TestFloor(t *testing.T) {
	for _, c := range []struct{ n, d, want int64 }{
		{0, 1, 0}, {5, 1, 5}, {-5, 1, -5}, {1, 2, 0}, {-1, 2, -1}, {3, 2, 1}, {-3, 2, -2}, {-1, 1 << 40, -1}, {1, 1 << 40, 0}, {99, 100, 0}, {-101, 100, -2},
	} {
		if got := rational.Floor(of(c.n, c.d)); !equal(got, of(c.want, 1)) {
			t.Errorf("Floor(%d/%d) = %s", c.n, c.d, rational.Text(got))
		}
	}
}

func TestDownAndUp(t *testing.T) {
	for _, c := range []struct {
		r        api.Rat
		k        int
		down, up api.Rat
	}{
		{of(-1, 3), 2, of(-1, 2), of(-1, 4)},
		{of(1, 3), 2, of(1, 4), of(1, 2)},
		{of(1, 3), 0, of(0, 1), of(1, 1)},
		{of(-1, 3), 0, of(-1, 1), of(0, 1)},
		{of(0, 1), 5, of(0, 1), of(0, 1)},
		{of(7, 8), 2, of(3, 4), of(1, 1)},
		{of(7, 8), 3, of(7, 8), of(7, 8)},
		{of(7, 8), 9, of(7, 8), of(7, 8)},
		{of(-7, 8), 2, of(-1, 1), of(-3, 4)},
		{of(12, 1), 7, of(12, 1), of(12, 1)},
		{of(1, 1<<40), 39, of(0, 1), of(1, 1<<39)},
		{of(-1, 1<<40), 39, of(-1, 1<<39), of(0, 1)},
	} {
		if got := rational.Down(c.r, c.k); !equal(got, c.down) {
			t.Errorf("Down(%s, %d) = %s", rational.Text(c.r), c.k, rational.Text(got))
		}
		if got := rational.Up(c.r, c.k); !equal(got, c.up) {
			t.Errorf("Up(%s, %d) = %s", rational.Text(c.r), c.k, rational.Text(got))
		}
	}
}

// roundedDown returns the greatest multiple of 2^-k that is at most x.
func roundedDown(x *big.Rat, k int) *big.Rat {
	scaled := new(big.Rat).Mul(x, twoTo(k))
	// Div rounds towards negative infinity, since the divisor is positive.
	n := new(big.Int).Div(scaled.Num(), scaled.Denom())
	return new(big.Rat).Mul(new(big.Rat).SetInt(n), twoTo(-k))
}

func roundedUp(x *big.Rat, k int) *big.Rat {
	out := roundedDown(new(big.Rat).Neg(x), k)
	return out.Neg(out)
}

func TestScales(t *testing.T) {
	s := source(3)
	scales := map[int]int{
		math.MinInt: 0, -4: 0, -1: 0, 0: 0, 1: 1, 31: 31, 32: 32, 70: 70, api.MaxScale - 1: api.MaxScale - 1,
		api.MaxScale: api.MaxScale, api.MaxScale + 1: api.MaxScale, math.MaxInt: api.MaxScale,
	}
	for range 300 {
		x := s.number(7)
		expect(t, "Floor", rational.Floor(rat(x)), roundedDown(x, 0))
		for k, used := range scales {
			expect(t, "Down", rational.Down(rat(x), k), roundedDown(x, used))
			expect(t, "Up", rational.Up(rat(x), k), roundedUp(x, used))
		}
	}
}

func TestBits(t *testing.T) {
	for _, c := range []struct {
		r    api.Rat
		want int
	}{
		{api.Rat{}, 1}, {of(1, 1), 1}, {of(-1, 1), 1}, {of(2, 1), 2}, {of(-255, 1), 8}, {of(256, 1), 9}, {of(1, 2), 2}, {of(9, 4), 4},
		{of(-1, 8), 4}, {of(7, 8), 4}, {of(1, top), 32}, {of(1<<32, 3), 33}, {rat(twoTo(2000)), 2001}, {rat(twoTo(-3000)), 3001},
	} {
		if got := rational.Bits(c.r); got != c.want {
			t.Errorf("Bits(%v) = %d; expected %d", c.r, got, c.want)
		}
	}
}

// Consequences

func TestLaws(t *testing.T) {
	s := source(4)
	for range 1000 {
		a, b, c := rat(s.number(6)), rat(s.number(6)), rat(s.number(6))
		for _, law := range []struct {
			name        string
			left, right api.Rat
		}{
			{"Add commutes", rational.Add(a, b), rational.Add(b, a)},
			{"Mul commutes", rational.Mul(a, b), rational.Mul(b, a)},
			{"Add associates", rational.Add(rational.Add(a, b), c), rational.Add(a, rational.Add(b, c))},
			{"Mul associates", rational.Mul(rational.Mul(a, b), c), rational.Mul(a, rational.Mul(b, c))},
			{"Mul distributes", rational.Mul(a, rational.Add(b, c)), rational.Add(rational.Mul(a, b), rational.Mul(a, c))},
			{"Sub undoes Add", rational.Sub(rational.Add(a, b), b), a},
		} {
			if !equal(law.left, law.right) {
				t.Fatalf("%s, but not for %v, %v, %v", law.name, a, b, c)
			}
		}
		if q, e := rational.Quo(rational.Mul(a, b), b); e == api.OK && !equal(q, a) {
			t.Fatalf("Quo does not undo Mul for %v, %v", a, b)
		}
		k := s.below(100)
		gap := rational.Sub(rational.Up(a, k), rational.Down(a, k))
		if !isZeroValue(gap) && !equal(gap, rat(twoTo(-k))) {
			t.Fatalf("Up and Down of %v differ by %v", a, gap)
		}
	}
}
