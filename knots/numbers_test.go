package knots_test

import (
	"math/big"
	"slices"
	"strconv"
	"strings"
	"testing"

	"brepkernel/api"
	"brepkernel/rational"
)

// source is a generator of numbers that are the same in every run.
type source uint64

func (s *source) below(n int) int {
	*s = *s*6364136223846793005 + 1442695040888963407
	return int(uint64(*s) >> 33 % uint64(n))
}

// number returns a small integer or fraction, or a long one.
func (s *source) number() *big.Rat {
	small := big.NewRat(int64(s.below(9)-4), int64(1+s.below(2)*s.below(9)))
	if s.below(4) > 0 {
		return small
	}
	long := new(big.Int).Lsh(big.NewInt(int64(s.below(1<<31))), uint(s.below(100)))
	den := new(big.Int).Lsh(big.NewInt(int64(1+s.below(1<<31))), uint(s.below(100)))
	return small.Mul(small, new(big.Rat).SetFrac(long, den))
}

// numbers returns n different numbers, the least first.
func (s *source) numbers(n int) []*big.Rat {
	var out []*big.Rat
	for len(out) < n {
		out = append(out, s.number())
		slices.SortFunc(out, (*big.Rat).Cmp)
		out = slices.CompactFunc(out, func(x, y *big.Rat) bool { return x.Cmp(y) == 0 })
	}
	return out
}

// knots returns a list that is valid for the degree, with this number of different
// inner knots.
func (s *source) knots(degree, inner int) []*big.Rat {
	all := s.numbers(inner + 2)
	var out []*big.Rat
	for i, x := range all {
		times := 1 + s.below(degree)
		if i == 0 || i == len(all)-1 {
			times = degree + 1
		}
		out = append(out, slices.Repeat([]*big.Rat{x}, times)...)
	}
	return out
}

// valid is a degree with knots that are valid for it.
type valid struct {
	degree int
	knots  []*big.Rat
}

// validKnots returns some for each degree: the fewest knots, some, and the most.
func validKnots() []valid {
	s := source(1)
	var out []valid
	for degree := 1; degree <= api.MaxDegree; degree++ {
		for _, inner := range []int{0, 0, 1, 1, 2, 3, 5} {
			out = append(out, valid{degree, s.knots(degree, inner)})
		}
		all := s.numbers(api.MaxPoles - degree + 1)
		first, last := all[:1], all[len(all)-1:]
		out = append(out, valid{degree, slices.Concat(slices.Repeat(first, degree), all, slices.Repeat(last, degree))})
	}
	return out
}

// anyLists returns lists of numbers that need not be in order, with some that occur
// several times.
func anyLists() [][]*big.Rat {
	s := source(2)
	out := [][]*big.Rat{nil}
	for range 200 {
		some := s.numbers(1 + s.below(4))
		var list []*big.Rat
		for range 1 + s.below(9) {
			list = append(list, some[s.below(len(some))])
		}
		out = append(out, list)
	}
	return out
}

// rat returns the valid number that is equal to x.
func rat(x *big.Rat) api.Rat {
	out := api.Rat{Neg: x.Sign() < 0, Num: limbs(x.Num())}
	if !x.IsInt() {
		out.Den = limbs(x.Denom())
	}
	return out
}

// limbs returns the magnitude of n.
func limbs(n *big.Int) []uint32 {
	var out []uint32
	for rest := new(big.Int).Abs(n); rest.Sign() > 0; rest.Rsh(rest, 32) {
		out = append(out, uint32(rest.Uint64()))
	}
	return out
}

func rats(list []*big.Rat) []api.Rat {
	var out []api.Rat
	for _, x := range list {
		out = append(out, rat(x))
	}
	return out
}

// num reads a number.
func num(text string) api.Rat {
	return rats(exact(text))[0]
}

// list reads numbers with blanks between them.
func list(text string) []api.Rat {
	return rats(exact(text))
}

// exact reads numbers with blanks between them.
func exact(text string) []*big.Rat {
	var out []*big.Rat
	for _, word := range strings.Fields(text) {
		x, ok := new(big.Rat).SetString(word)
		if !ok {
			panic(text)
		}
		out = append(out, x)
	}
	return out
}

// show returns numbers as a text with blanks between them.
func show(k []api.Rat) string {
	var words []string
	for _, r := range k {
		words = append(words, rational.Text(r))
	}
	return strings.Join(words, " ")
}

func plus(x, y *big.Rat) *big.Rat  { return new(big.Rat).Add(x, y) }
func minus(x, y *big.Rat) *big.Rat { return new(big.Rat).Sub(x, y) }
func times(x, y *big.Rat) *big.Rat { return new(big.Rat).Mul(x, y) }
func over(x, y *big.Rat) *big.Rat  { return new(big.Rat).Quo(x, y) }

// expect compares a list with numbers, limb by limb.
func expect(t *testing.T, what string, got []api.Rat, want []*big.Rat) {
	t.Helper()
	same := func(a, b api.Rat) bool {
		return a.Neg == b.Neg && slices.Equal(a.Num, b.Num) && slices.Equal(a.Den, b.Den)
	}
	if !slices.EqualFunc(got, rats(want), same) {
		t.Fatalf("%s = (%s); expected (%s)", what, show(got), show(rats(want)))
	}
}

// expectText compares what is shown.
func expectText(t *testing.T, what, got, want string) {
	t.Helper()
	if got != want {
		t.Errorf("%s = %q; expected %q", what, got, want)
	}
}

// of describes arguments.
func of(name string, k []*big.Rat, degree int) string {
	return name + " of (" + show(rats(k)) + ") and the degree " + strconv.Itoa(degree)
}
