package nearest_test

import (
	"math/big"
	"slices"
	"strings"
	"testing"

	"brepkernel/api"
	"brepkernel/rational"
)

// source is a generator of numbers that are the same in every run.
type source uint64

func (s *source) below(n int) int {
	*s = *s*6364136223846793005 + 1442695040888963407
	return int(uint64(*s) >> 33 % uint64(n))
}

// simple returns a small integer or fraction.
func (s *source) simple() *big.Rat {
	return big.NewRat(int64(s.below(9)-4), int64(1+s.below(2)*s.below(9)))
}

// number returns a simple number, or a long one.
func (s *source) number() *big.Rat {
	small := s.simple()
	if s.below(6) > 0 {
		return small
	}
	return times(small, s.long(88))
}

// long returns a number of at most this many bits.
func (s *source) long(bits int) *big.Rat {
	part := func() *big.Int {
		digits := []byte{1}
		for range bits/8 - 1 {
			digits = append(digits, byte(s.below(256)))
		}
		return new(big.Int).SetBytes(digits)
	}
	return new(big.Rat).SetFrac(part(), part())
}

// positive returns a number greater than 0.
func (s *source) positive() *big.Rat {
	for {
		if x := s.number(); x.Sign() != 0 {
			return x.Abs(x)
		}
	}
}

func plus(x, y *big.Rat) *big.Rat  { return new(big.Rat).Add(x, y) }
func minus(x, y *big.Rat) *big.Rat { return new(big.Rat).Sub(x, y) }
func times(x, y *big.Rat) *big.Rat { return new(big.Rat).Mul(x, y) }
func over(x, y *big.Rat) *big.Rat  { return new(big.Rat).Quo(x, y) }

// between returns x + share (y - x).
func between(x, y, share *big.Rat) *big.Rat {
	return plus(x, times(share, minus(y, x)))
}

// powerOf2 returns 2^n.
func powerOf2(n int) *big.Rat {
	return new(big.Rat).SetInt(new(big.Int).Lsh(big.NewInt(1), uint(n)))
}

func least(l []*big.Rat) *big.Rat    { return slices.MinFunc(l, (*big.Rat).Cmp) }
func greatest(l []*big.Rat) *big.Rat { return slices.MaxFunc(l, (*big.Rat).Cmp) }

// each returns the list of what f makes of the elements.
func each[T, U any](list []T, f func(x T) U) []U {
	var out []U
	for _, x := range list {
		out = append(out, f(x))
	}
	return out
}

// rat returns the valid number that is equal to x.
func rat(x *big.Rat) api.Rat {
	out := api.Rat{Neg: x.Sign() < 0, Num: limbs(x.Num())}
	if !x.IsInt() {
		out.Den = limbs(x.Denom())
	}
	return out
}

// limbs returns the magnitude of n.
func limbs(n *big.Int) []uint32 {
	var out []uint32
	for rest := new(big.Int).Abs(n); rest.Sign() > 0; rest.Rsh(rest, 32) {
		out = append(out, uint32(rest.Uint64()))
	}
	return out
}

// value returns the number for which a valid r stands.
func value(r api.Rat) *big.Rat {
	whole := func(limbs []uint32) *big.Int {
		out := new(big.Int)
		for _, limb := range slices.Backward(limbs) {
			out.Lsh(out, 32)
			out.Add(out, big.NewInt(int64(limb)))
		}
		return out
	}
	den := big.NewInt(1)
	if len(r.Den) > 0 {
		den = whole(r.Den)
	}
	out := new(big.Rat).SetFrac(whole(r.Num), den)
	if r.Neg {
		out.Neg(out)
	}
	return out
}

// exact reads numbers with blanks between them.
func exact(text string) []*big.Rat {
	return each(strings.Fields(text), func(word string) *big.Rat {
		x, ok := new(big.Rat).SetString(word)
		if !ok {
			panic(text)
		}
		return x
	})
}

// num reads a number.
func num(text string) api.Rat { return rat(exact(text)[0]) }

// list reads numbers with blanks between them.
func list(text string) []api.Rat { return each(exact(text), rat) }

// pt reads a point.
func pt(text string) api.Point { return api.Point(list(text)) }

// show returns numbers as a text with blanks between them.
func show(list ...api.Rat) string {
	return strings.Join(each(list, rational.Text), " ")
}

func showPoint(p api.Point) string { return show(p[:]...) }

// expectText compares what is shown.
func expectText(t *testing.T, what, got, want string) {
	t.Helper()
	if got != want {
		t.Fatalf("%s = %q; expected %q", what, got, want)
	}
}

// expectError compares an error with the one that is expected.
func expectError(t *testing.T, what string, got, want api.Errno) {
	t.Helper()
	if got != want {
		t.Fatalf("%s: error %d; expected %d", what, got, want)
	}
}
