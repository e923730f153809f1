package tensor_test

import (
	"math/big"
	"slices"
	"strconv"
	"strings"
	"testing"

	"brepkernel/api"
	"brepkernel/rational"
)

// source is a generator of numbers that are the same in every run.
type source uint64

func (s *source) below(n int) int {
	*s = *s*6364136223846793005 + 1442695040888963407
	return int(uint64(*s) >> 33 % uint64(n))
}

// number returns a small integer, often 0, or a fraction, sometimes a long one.
func (s *source) number() api.Rat {
	small, _ := rational.Make(int64(s.below(7)-3), int64(1+s.below(2)*s.below(9)))
	if s.below(6) > 0 {
		return small
	}
	long := rational.Int(int64(s.below(1<<31)) << 31)
	part, _ := rational.Make(int64(s.below(1<<31)), int64(1+s.below(1<<31))<<31)
	return rational.Mul(small, rational.Add(long, part))
}

// simple returns a small integer or a fraction with a small denominator.
func (s *source) simple() api.Rat {
	r, _ := rational.Make(int64(s.below(7)-3), int64(1+s.below(4)))
	return r
}

// net returns a net of these degrees. If it has many coefficients, they are simple.
func (s *source) net(u, v int) api.Net {
	out := api.Net{U: u, V: v}
	for range (u + 1) * (v + 1) {
		if u+v > 12 {
			out.C = append(out.C, s.simple())
		} else {
			out.C = append(out.C, s.number())
		}
	}
	return out
}

// degrees are some pairs of formal degrees, with the least and the greatest ones.
func degrees() [][2]int {
	return [][2]int{
		{0, 0}, {0, 1}, {1, 0}, {1, 1}, {0, 4}, {4, 0}, {1, 2}, {2, 1}, {2, 2}, {3, 2}, {2, 5}, {6, 6},
		{0, api.MaxPoly}, {api.MaxPoly, 0}, {1, api.MaxPoly}, {api.MaxPoly - 1, 2}, {api.MaxPoly, api.MaxPoly},
	}
}

func num(text string) api.Rat {
	r, e := rational.Parse(text)
	if e != api.OK {
		panic(text)
	}
	return r
}

// net reads coefficients with blanks between them.
func net(u, v int, text string) api.Net {
	out := api.Net{U: u, V: v}
	for _, word := range strings.Fields(text) {
		out.C = append(out.C, num(word))
	}
	if len(out.C) != (u+1)*(v+1) {
		panic(text)
	}
	return out
}

func list(c []api.Rat) string {
	var words []string
	for _, r := range c {
		words = append(words, rational.Text(r))
	}
	return strings.Join(words, " ")
}

// show returns the degrees and the coefficients.
func show(n api.Net) string {
	return strconv.Itoa(n.U) + " " + strconv.Itoa(n.V) + ": " + list(n.C)
}

// constant returns the net of these degrees with equal coefficients.
func constant(u, v int, r api.Rat) api.Net {
	out := api.Net{U: u, V: v}
	for range (u + 1) * (v + 1) {
		out.C = append(out.C, r)
	}
	return out
}

// exact returns the number for which a valid r stands.
func exact(r api.Rat) *big.Rat {
	out := new(big.Rat).SetInt(integer(r.Num))
	if len(r.Den) > 0 {
		out.Quo(out, new(big.Rat).SetInt(integer(r.Den)))
	}
	if r.Neg {
		out.Neg(out)
	}
	return out
}

// integer returns the integer for which limbs stand.
func integer(limbs []uint32) *big.Int {
	out := new(big.Int)
	for _, limb := range slices.Backward(limbs) {
		out.Lsh(out, 32)
		out.Add(out, big.NewInt(int64(limb)))
	}
	return out
}

func plus(x, y *big.Rat) *big.Rat  { return new(big.Rat).Add(x, y) }
func minus(x, y *big.Rat) *big.Rat { return new(big.Rat).Sub(x, y) }
func times(x, y *big.Rat) *big.Rat { return new(big.Rat).Mul(x, y) }

func power(x *big.Rat, n int) *big.Rat {
	out := big.NewRat(1, 1)
	for range n {
		out.Mul(out, x)
	}
	return out
}

// functions returns the values at x of the polynomials of the degree n that the
// chapter names B.
func functions(n int, x *big.Rat) []*big.Rat {
	var out []*big.Rat
	rest := minus(big.NewRat(1, 1), x)
	for i := range n + 1 {
		binomial := new(big.Rat).SetInt(new(big.Int).Binomial(int64(n), int64(i)))
		out = append(out, times(binomial, times(power(x, i), power(rest, n-i))))
	}
	return out
}

// slopes returns the values at x of their derivatives, by the rule for products.
func slopes(n int, x *big.Rat) []*big.Rat {
	var out []*big.Rat
	rest := minus(big.NewRat(1, 1), x)
	for i := range n + 1 {
		change := new(big.Rat)
		if i > 0 {
			change.Add(change, times(big.NewRat(int64(i), 1), times(power(x, i-1), power(rest, n-i))))
		}
		if i < n {
			change.Sub(change, times(big.NewRat(int64(n-i), 1), times(power(x, i), power(rest, n-i-1))))
		}
		binomial := new(big.Rat).SetInt(new(big.Int).Binomial(int64(n), int64(i)))
		out = append(out, times(binomial, change))
	}
	return out
}

// weighted returns the sum of the coefficients of n, times numbers that belong to
// their first index, times numbers that belong to the second one.
func weighted(n api.Net, first, second []*big.Rat) *big.Rat {
	sum := new(big.Rat)
	for i, x := range first {
		inner := new(big.Rat)
		for j, y := range second {
			inner.Add(inner, times(exact(n.C[i*len(second)+j]), y))
		}
		sum.Add(sum, times(x, inner))
	}
	return sum
}

// value returns the value of n, as the definition says.
func value(n api.Net, x, y *big.Rat) *big.Rat {
	return weighted(n, functions(n.U, x), functions(n.V, y))
}

// polyValue returns the value of a polynomial of one variable.
func polyValue(p api.Poly, x *big.Rat) *big.Rat {
	return value(api.Net{V: len(p) - 1, C: p}, new(big.Rat), x)
}

// places returns n + 1 different numbers: a polynomial of the degree n is known if
// its values there are. Of many numbers only some are returned, which are not near
// to where polynomials often are 0.
func places(n int) []*big.Rat {
	if n > 6 {
		return []*big.Rat{big.NewRat(5, 7), big.NewRat(-11, 3)}
	}
	out := []*big.Rat{big.NewRat(1, 3)}
	for i := range n {
		out = append(out, big.NewRat(int64(i-n/2), 2))
	}
	return out
}

// expect compares a net with the one of the formal degrees u and v that has the
// values of f.
func expect(t *testing.T, what string, got api.Net, u, v int, f func(x, y *big.Rat) *big.Rat) {
	t.Helper()
	if got.U != u || got.V != v || len(got.C) != (u+1)*(v+1) {
		t.Fatalf("%s: degrees %d and %d, %d coefficients; expected the degrees %d and %d", what, got.U, got.V, len(got.C), u, v)
	}
	for _, x := range places(u) {
		for _, y := range places(v) {
			if z, want := value(got, x, y), f(x, y); z.Cmp(want) != 0 {
				t.Fatalf("%s: %s, which is %s at %s, %s; expected %s", what, show(got), z, x, y, want)
			}
		}
	}
}

func expectText(t *testing.T, what, got, want string) {
	t.Helper()
	if got != want {
		t.Errorf("%s: %s; expected %s", what, got, want)
	}
}
