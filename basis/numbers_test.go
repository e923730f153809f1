package basis_test

import (
	"math/big"
	"slices"
	"strconv"
	"strings"
	"testing"

	"brepkernel/api"
	"brepkernel/rational"
)

// source is a generator of numbers that are the same in every run.
type source uint64

func (s *source) below(n int) int {
	*s = *s*6364136223846793005 + 1442695040888963407
	return int(uint64(*s) >> 33 % uint64(n))
}

// number returns a small integer or fraction, or a long one.
func (s *source) number() *big.Rat {
	small := big.NewRat(int64(s.below(9)-4), int64(1+s.below(2)*s.below(9)))
	if s.below(5) > 0 {
		return small
	}
	long := new(big.Int).Lsh(big.NewInt(int64(s.below(1<<31))), uint(s.below(60)))
	den := new(big.Int).Lsh(big.NewInt(int64(1+s.below(1<<31))), uint(s.below(60)))
	return small.Mul(small, new(big.Rat).SetFrac(long, den))
}

// list returns n numbers.
func (s *source) list(n int) []*big.Rat {
	out := make([]*big.Rat, n)
	for i := range out {
		out[i] = s.number()
	}
	return out
}

// ascending returns n different numbers, the least first.
func (s *source) ascending(n int) []*big.Rat {
	var out []*big.Rat
	for len(out) < n {
		out = append(out, s.number())
		slices.SortFunc(out, (*big.Rat).Cmp)
		out = slices.CompactFunc(out, func(x, y *big.Rat) bool { return x.Cmp(y) == 0 })
	}
	return out
}

// knots returns a list that is valid for the degree, with this number of different
// inner knots.
func (s *source) knots(degree, inner int) []*big.Rat {
	all := s.ascending(inner + 2)
	var out []*big.Rat
	for i, x := range all {
		times := 1 + s.below(degree)
		if i == 0 || i == len(all)-1 {
			times = degree + 1
		}
		out = append(out, slices.Repeat([]*big.Rat{x}, times)...)
	}
	return out
}

// spline is a spline with valid knots.
type spline struct {
	degree int
	k, c   []*big.Rat
}

func (p spline) poles() int {
	return len(p.k) - p.degree - 1
}

// splines returns some of each degree: with the fewest knots, with some, with inner
// knots that occur as often as they may, and with the most poles.
func splines() []spline {
	s := source(1)
	var out []spline
	add := func(degree int, k []*big.Rat) {
		out = append(out, spline{degree, k, s.list(len(k) - degree - 1)})
	}
	for degree := 1; degree <= api.MaxDegree; degree++ {
		for _, inner := range []int{0, 0, 1, 1, 2, 3, 5} {
			add(degree, s.knots(degree, inner))
		}
		ends := func(inner ...*big.Rat) []*big.Rat {
			return slices.Concat(slices.Repeat(inner[:1], degree), inner, slices.Repeat(inner[len(inner)-1:], degree))
		}
		add(degree, ends(s.ascending(api.MaxPoles-degree+1)...))
		some := s.ascending(4)
		add(degree, ends(slices.Concat(some[:1], slices.Repeat(some[1:2], degree), slices.Repeat(some[2:3], degree), some[3:])...))
	}
	return out
}

// parameters returns the different knots, and between each two of them the middle and
// two more numbers.
func (p spline) parameters() []*big.Rat {
	distinct := slices.CompactFunc(slices.Clone(p.k), func(x, y *big.Rat) bool { return x.Cmp(y) == 0 })
	out := slices.Clone(distinct)
	for i := range len(distinct) - 1 {
		for _, share := range exact("1/2 1/1000003 22/23") {
			out = append(out, between(distinct[i], distinct[i+1], share))
		}
	}
	return out
}

// between returns x + share (y - x).
func between(x, y, share *big.Rat) *big.Rat {
	return plus(x, times(share, minus(y, x)))
}

// outside returns parameters before the first and behind the last knot.
func (p spline) outside() []*big.Rat {
	first, last := p.k[0], p.k[len(p.k)-1]
	var out []*big.Rat
	for _, x := range exact("1 1/1000000007 1e-300 1e300") {
		out = append(out, minus(first, x), plus(last, x))
	}
	return out
}

// intervals returns the indices of the intervals between different knots.
func (p spline) intervals() []int {
	var out []int
	for i := range len(p.k) - 1 {
		if p.k[i].Cmp(p.k[i+1]) < 0 {
			out = append(out, i)
		}
	}
	return out
}

// interval returns the index of the interval in which a parameter lies: for the last
// knot it is the last one.
func (p spline) interval(t *big.Rat) int {
	index := -1
	for _, i := range p.intervals() {
		if p.k[i].Cmp(t) <= 0 {
			index = i
		}
	}
	return index
}

// functions returns the values of all basis functions by their recursion, where those
// of the degree 0 are 1 on the interval and 0 elsewhere. For a parameter that does not
// lie in the interval, they are those of the polynomials on it.
func (p spline) functions(interval int, t *big.Rat) []*big.Rat {
	k := p.k
	values := slices.Repeat([]*big.Rat{new(big.Rat)}, len(k)-1)
	values[interval] = big.NewRat(1, 1)
	for d := 1; d <= p.degree; d++ {
		next := slices.Repeat([]*big.Rat{new(big.Rat)}, len(k)-d-1)
		for i := range next {
			if values[i].Sign() == 0 && values[i+1].Sign() == 0 {
				continue
			}
			rise := times(quotient(minus(t, k[i]), minus(k[i+d], k[i])), values[i])
			fall := times(quotient(minus(k[i+d+1], t), minus(k[i+d+1], k[i+1])), values[i+1])
			next[i] = plus(rise, fall)
		}
		values = next
	}
	return values
}

// polynomial returns the value at t of the polynomial that the spline is on an
// interval.
func (p spline) polynomial(interval int, t *big.Rat) *big.Rat {
	sum := new(big.Rat)
	for j, value := range p.functions(interval, t) {
		sum.Add(sum, times(p.c[j], value))
	}
	return sum
}

// polar returns the polar form on an interval, by the polarisation formula: the sum
// over the sets of arguments of (-1)^(degree - n) n^degree p(mean) / degree!, where n
// is the number of arguments in the set.
func (p spline) polar(interval int, args []*big.Rat) *big.Rat {
	total, factorial := new(big.Rat), big.NewRat(1, 1)
	for i := range p.degree {
		factorial.Mul(factorial, big.NewRat(int64(i+1), 1))
	}
	for set := 1; set < 1<<p.degree; set++ {
		n, sum := 0, new(big.Rat)
		for i, x := range args {
			if set>>i&1 == 1 {
				n++
				sum.Add(sum, x)
			}
		}
		size := big.NewRat(int64(n), 1)
		term := p.polynomial(interval, over(sum, size))
		for range p.degree {
			term.Mul(term, size)
		}
		if (p.degree-n)%2 == 1 {
			term.Neg(term)
		}
		total.Add(total, term)
	}
	return over(total, factorial)
}

func plus(x, y *big.Rat) *big.Rat  { return new(big.Rat).Add(x, y) }
func minus(x, y *big.Rat) *big.Rat { return new(big.Rat).Sub(x, y) }
func times(x, y *big.Rat) *big.Rat { return new(big.Rat).Mul(x, y) }
func over(x, y *big.Rat) *big.Rat  { return new(big.Rat).Quo(x, y) }

// quotient returns x / y, or 0 if y is 0.
func quotient(x, y *big.Rat) *big.Rat {
	if y.Sign() == 0 {
		return new(big.Rat)
	}
	return over(x, y)
}

// rat returns the valid number that is equal to x.
func rat(x *big.Rat) api.Rat {
	out := api.Rat{Neg: x.Sign() < 0, Num: limbs(x.Num())}
	if !x.IsInt() {
		out.Den = limbs(x.Denom())
	}
	return out
}

// limbs returns the magnitude of n.
func limbs(n *big.Int) []uint32 {
	var out []uint32
	for rest := new(big.Int).Abs(n); rest.Sign() > 0; rest.Rsh(rest, 32) {
		out = append(out, uint32(rest.Uint64()))
	}
	return out
}

func rats(list []*big.Rat) []api.Rat {
	var out []api.Rat
	for _, x := range list {
		out = append(out, rat(x))
	}
	return out
}

// num reads a number.
func num(text string) api.Rat {
	return rats(exact(text))[0]
}

// list reads numbers with blanks between them.
func list(text string) []api.Rat {
	return rats(exact(text))
}

// exact reads numbers with blanks between them.
func exact(text string) []*big.Rat {
	var out []*big.Rat
	for _, word := range strings.Fields(text) {
		x, ok := new(big.Rat).SetString(word)
		if !ok {
			panic(text)
		}
		out = append(out, x)
	}
	return out
}

// show returns numbers as a text with blanks between them.
func show(list ...api.Rat) string {
	var words []string
	for _, r := range list {
		words = append(words, rational.Text(r))
	}
	return strings.Join(words, " ")
}

// of describes a call for a spline.
func of(name string, p spline) string {
	return name + " of the degree " + strconv.Itoa(p.degree) + ", the knots (" + show(rats(p.k)...) + ") and the coefficients (" + show(rats(p.c)...) + ")"
}

// expect compares a list with numbers, limb by limb.
func expect(t *testing.T, what string, got []api.Rat, want []*big.Rat) {
	t.Helper()
	same := func(a, b api.Rat) bool {
		return a.Neg == b.Neg && slices.Equal(a.Num, b.Num) && slices.Equal(a.Den, b.Den)
	}
	if !slices.EqualFunc(got, rats(want), same) {
		t.Fatalf("%s = (%s); expected (%s)", what, show(got...), show(rats(want)...))
	}
}

// expectText compares what is shown.
func expectText(t *testing.T, what, got, want string) {
	t.Helper()
	if got != want {
		t.Errorf("%s = %q; expected %q", what, got, want)
	}
}
