package roots_test

import (
	"math/big"
	"strconv"
	"strings"
	"testing"

	"brepkernel/api"
	"brepkernel/bernstein"
	"brepkernel/rational"
)

// source is a generator of numbers that are the same in every run.
type source uint64

func (s *source) below(n int) int {
	*s = *s*6364136223846793005 + 1442695040888963407
	return int(uint64(*s) >> 33 % uint64(n))
}

// number returns a small integer, often 0, or a fraction, sometimes a long one.
func (s *source) number() api.Rat {
	small, _ := rational.Make(int64(s.below(7)-3), int64(1+s.below(2)*s.below(9)))
	if s.below(9) > 0 {
		return small
	}
	long := rational.Int(int64(s.below(1<<31)) << 31)
	part, _ := rational.Make(int64(s.below(1<<31)), int64(1+s.below(1<<31))<<31)
	return rational.Mul(small, rational.Add(long, part))
}

// poly returns a polynomial of the formal degree n, sometimes 0.
func (s *source) poly(n int) api.Poly {
	out := make(api.Poly, n+1)
	for i := range out {
		out[i] = s.number()
	}
	return out
}

// other returns a polynomial of the formal degree n that is not 0.
func (s *source) other(n int) api.Poly {
	for {
		if p := s.poly(n); !bernstein.Zero(p) {
			return p
		}
	}
}

// rooted returns a product of a polynomial of the formal degree at most 2 and of some
// factors x - a, where many of the a are multiples of 1/16 from 0 to 1, some of them
// equal.
func (s *source) rooted(factors int) api.Poly {
	out, a := s.other(s.below(3)), rational.Int(0)
	for range factors {
		switch s.below(4) {
		case 0:
			a = s.number()
		case 1, 2:
			a, _ = rational.Make(int64(s.below(17)), 16)
		}
		out = product(out, factor(a))
	}
	return out
}

// elevated returns a polynomial with a formal degree that is by n higher.
func elevated(p api.Poly, n int) api.Poly {
	out, e := bernstein.Elevate(p, len(p)-1+n)
	if e != api.OK {
		panic("too high")
	}
	return out
}

// factor returns x - a.
func factor(a api.Rat) api.Poly {
	return api.Poly{rational.Neg(a), rational.Sub(rational.Int(1), a)}
}

func product(factors ...api.Poly) api.Poly {
	out := api.Poly{rational.Int(1)}
	for _, p := range factors {
		var e api.Errno
		if out, e = bernstein.Mul(out, p); e != api.OK {
			panic("too many factors")
		}
	}
	return out
}

// power returns the product of n polynomials p.
func power(p api.Poly, n int) api.Poly {
	out := product()
	for range n {
		out = product(out, p)
	}
	return out
}

func num(text string) api.Rat {
	r, e := rational.Parse(text)
	if e != api.OK {
		panic(text)
	}
	return r
}

// poly reads the coefficients of 1, x, x^2, .. with blanks between them.
func poly(text string) api.Poly {
	var c []api.Rat
	for _, word := range strings.Fields(text) {
		c = append(c, num(word))
	}
	out, e := bernstein.FromPowers(c)
	if e != api.OK {
		panic(text)
	}
	return out
}

// show writes the coefficients of 1, x, x^2, .., as many as the formal degree says.
func show(p api.Poly) string {
	if len(p) == 0 {
		return "nothing"
	}
	var words []string
	for _, r := range bernstein.ToPowers(p) {
		words = append(words, rational.Text(r))
	}
	return strings.Join(words, " ")
}

// span reads the two ends of a span.
func span(text string) api.Span {
	words := strings.Fields(text)
	return api.Span{Lo: num(words[0]), Hi: num(words[1])}
}

func showSpan(s api.Span) string {
	return rational.Text(s.Lo) + " " + rational.Text(s.Hi)
}

// showRoots writes the ends and the multiplicity of each root.
func showRoots(l []api.Root) string {
	var words []string
	for _, r := range l {
		words = append(words, "("+showSpan(r.In)+")"+strconv.Itoa(r.Times))
	}
	return strings.Join(words, " ")
}

// exact returns the number for which a valid r stands.
func exact(r api.Rat) *big.Rat {
	out, ok := new(big.Rat).SetString(rational.Text(r))
	if !ok {
		panic(rational.Text(r))
	}
	return out
}

func expectText(t *testing.T, what, got, want string) {
	t.Helper()
	if got != want {
		t.Errorf("%s: %s; expected %s", what, got, want)
	}
}

func expectError(t *testing.T, what string, got, want api.Errno) {
	t.Helper()
	if got != want {
		t.Errorf("%s: error %d; expected %d", what, int(got), int(want))
	}
}
