package bernstein_test

import (
	"math/big"
	"strings"
	"testing"

	"brepkernel/api"
	"brepkernel/rational"
)

// source is a generator of numbers that are the same in every run.
type source uint64

func (s *source) below(n int) int {
	*s = *s*6364136223846793005 + 1442695040888963407
	return int(uint64(*s) >> 33 % uint64(n))
}

// number returns a small integer, often 0, or a fraction, sometimes a long one.
func (s *source) number() api.Rat {
	small, _ := rational.Make(int64(s.below(7)-3), int64(1+s.below(2)*s.below(9)))
	if s.below(6) > 0 {
		return small
	}
	long := rational.Int(int64(s.below(1<<31)) << 31)
	part, _ := rational.Make(int64(s.below(1<<31)), int64(1+s.below(1<<31))<<31)
	return rational.Mul(small, rational.Add(long, part))
}

// poly returns a polynomial of the formal degree n.
func (s *source) poly(n int) api.Poly {
	out := make(api.Poly, n+1)
	for i := range out {
		out[i] = s.number()
	}
	return out
}

// degrees are some of the formal degrees, with the least and the greatest one.
func degrees() []int {
	return []int{0, 1, 2, 3, 4, 5, 7, 12, 19, api.MaxPoly - 1, api.MaxPoly}
}

func num(text string) api.Rat {
	r, e := rational.Parse(text)
	if e != api.OK {
		panic(text)
	}
	return r
}

// poly reads coefficients with blanks between them.
func poly(text string) api.Poly {
	var out api.Poly
	for _, word := range strings.Fields(text) {
		out = append(out, num(word))
	}
	return out
}

func show(p api.Poly) string {
	var words []string
	for _, r := range p {
		words = append(words, rational.Text(r))
	}
	return strings.Join(words, " ")
}

// unit returns the coefficient i alone, as 1.
func unit(n, i int) api.Poly {
	out := make(api.Poly, n+1)
	out[i] = rational.Int(1)
	return out
}

// constant returns n + 1 equal coefficients.
func constant(n int, r api.Rat) api.Poly {
	out := make(api.Poly, n+1)
	for i := range out {
		out[i] = r
	}
	return out
}

// exact returns the number for which a valid r stands.
func exact(r api.Rat) *big.Rat {
	out, ok := new(big.Rat).SetString(rational.Text(r))
	if !ok {
		panic(rational.Text(r))
	}
	return out
}

// rat returns the valid number that is equal to x.
func rat(x *big.Rat) api.Rat {
	limbs := func(n *big.Int) []uint32 {
		var out []uint32
		for rest := new(big.Int).Abs(n); rest.Sign() > 0; rest.Rsh(rest, 32) {
			out = append(out, uint32(new(big.Int).And(rest, big.NewInt(1<<32-1)).Uint64()))
		}
		return out
	}
	out := api.Rat{Neg: x.Sign() < 0, Num: limbs(x.Num())}
	if !x.IsInt() {
		out.Den = limbs(x.Denom())
	}
	return out
}

func plus(x, y *big.Rat) *big.Rat  { return new(big.Rat).Add(x, y) }
func minus(x, y *big.Rat) *big.Rat { return new(big.Rat).Sub(x, y) }
func times(x, y *big.Rat) *big.Rat { return new(big.Rat).Mul(x, y) }

func power(x *big.Rat, n int) *big.Rat {
	out := big.NewRat(1, 1)
	for range n {
		out.Mul(out, x)
	}
	return out
}

func binomial(n, i int) *big.Rat {
	return new(big.Rat).SetInt(new(big.Int).Binomial(int64(n), int64(i)))
}

// value returns the value of p at x, as the definition says.
func value(p api.Poly, x *big.Rat) *big.Rat {
	n, sum, rest := len(p)-1, new(big.Rat), minus(big.NewRat(1, 1), x)
	for i, r := range p {
		product := times(power(x, i), power(rest, n-i))
		sum.Add(sum, times(times(exact(r), binomial(n, i)), product))
	}
	return sum
}

// slope returns the value of the derivative, by the rule for products.
func slope(p api.Poly, x *big.Rat) *big.Rat {
	n, sum, rest := len(p)-1, new(big.Rat), minus(big.NewRat(1, 1), x)
	for i, r := range p {
		change := new(big.Rat)
		if i > 0 {
			change.Add(change, times(big.NewRat(int64(i), 1), times(power(x, i-1), power(rest, n-i))))
		}
		if i < n {
			change.Sub(change, times(big.NewRat(int64(n-i), 1), times(power(x, i), power(rest, n-i-1))))
		}
		sum.Add(sum, times(times(exact(r), binomial(n, i)), change))
	}
	return sum
}

// places returns n + 1 different numbers: a polynomial of the degree n is known if
// its values there are.
func places(n int) []*big.Rat {
	out := []*big.Rat{big.NewRat(1, 3)}
	for i := range n {
		out = append(out, big.NewRat(int64(i-n/2), 2))
	}
	return out
}

// expect compares a polynomial with the one of the formal degree n that has the
// values of f.
func expect(t *testing.T, what string, got api.Poly, n int, f func(x *big.Rat) *big.Rat) {
	t.Helper()
	if len(got) != n+1 {
		t.Fatalf("%s: %d coefficients; expected %d", what, len(got), n+1)
	}
	for _, x := range places(n) {
		if v, want := value(got, x), f(x); v.Cmp(want) != 0 {
			t.Fatalf("%s: %s, which is %s at %s; expected %s", what, show(got), v, x, want)
		}
	}
}

func expectText(t *testing.T, what, got, want string) {
	t.Helper()
	if got != want {
		t.Errorf("%s: %s; expected %s", what, got, want)
	}
}
