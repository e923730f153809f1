package roots_test

import (
	"math/big"
	"slices"
	"strings"

	"brepkernel/api"
	"brepkernel/bernstein"
)

// The model does what the chapter says, word by word, with numbers of math/big. A
// polynomial of it is the coefficients of 1, x, x^2, .., the last of which is not 0.
type model []*big.Rat

func modelOf(p api.Poly) model {
	var out model
	for _, r := range bernstein.ToPowers(p) {
		out = append(out, exact(r))
	}
	return out.stripped()
}

func (m model) stripped() model {
	n := len(m)
	for n > 0 && m[n-1].Sign() == 0 {
		n--
	}
	return m[:n]
}

// String writes a model as show writes a polynomial of the least formal degree.
func (m model) String() string {
	if len(m) == 0 {
		return "0"
	}
	var words []string
	for _, x := range m {
		words = append(words, x.RatString())
	}
	return strings.Join(words, " ")
}

func (m model) times(r *big.Rat) model {
	var out model
	for _, x := range m {
		out = append(out, new(big.Rat).Mul(r, x))
	}
	return out
}

func (m model) monic() model {
	if len(m) == 0 {
		return nil
	}
	return m.times(new(big.Rat).Inv(m[len(m)-1]))
}

func (m model) slope() model {
	var out model
	for i, x := range m {
		if i > 0 {
			out = append(out, new(big.Rat).Mul(big.NewRat(int64(i), 1), x))
		}
	}
	return out
}

func (m model) at(x *big.Rat) *big.Rat {
	sum := new(big.Rat)
	for _, y := range slices.Backward(m) {
		sum.Add(sum.Mul(sum, x), y)
	}
	return sum
}

func (m model) divide(by model) (quotient, rest model) {
	rest = m.times(big.NewRat(1, 1))
	for k := len(m) - len(by); k >= 0; k-- {
		x := new(big.Rat).Quo(rest[k+len(by)-1], by[len(by)-1])
		quotient = append(quotient, x)
		for i, y := range by {
			rest[k+i].Sub(rest[k+i], new(big.Rat).Mul(x, y))
		}
	}
	slices.Reverse(quotient)
	return quotient, rest.stripped()
}

func (m model) gcd(other model) model {
	for len(other) > 0 {
		_, rest := m.divide(other)
		m, other = other, rest.monic()
	}
	return m.monic()
}

func (m model) squareFree() model {
	out, _ := m.divide(m.gcd(m.slope()))
	return out.monic()
}

func (m model) sturm() []model {
	out := []model{m.squareFree()}
	for next := out[0].slope(); len(next) > 0; {
		out = append(out, next)
		_, rest := out[len(out)-2].divide(next)
		next = rest.times(big.NewRat(-1, 1))
	}
	return out
}

// signs returns positive multiples of a Sturm sequence, which have the same signs and
// much shorter numbers.
func (m model) signs() []model {
	free := m.squareFree()
	out := []model{free}
	for next := free.slope(); len(next) > 0; {
		out = append(out, next)
		_, rest := out[len(out)-2].divide(next)
		if next = nil; len(rest) > 0 {
			size := new(big.Rat).Abs(rest[len(rest)-1])
			next = rest.times(size.Neg(size.Inv(size)))
		}
	}
	return out
}

// changes returns the number of changes of sign along a Sturm sequence.
func changes(sequence []model, x *big.Rat) int {
	count, last := 0, 0
	for _, m := range sequence {
		sign := m.at(x).Sign()
		if sign*last < 0 {
			count++
		}
		if sign != 0 {
			last = sign
		}
	}
	return count
}

// counter returns a function that counts the roots of m between two numbers, by
// Sturm's theorem, which includes the upper number.
func (m model) counter() func(a, b *big.Rat) int {
	sequence := m.signs()
	return func(a, b *big.Rat) int {
		n := changes(sequence, a) - changes(sequence, b)
		if a.Cmp(b) < 0 && m.at(b).Sign() == 0 {
			n--
		}
		return n
	}
}

// modelRoot is a root as the chapter describes it.
type modelRoot struct {
	low, high *big.Rat
	times     int
}

func (r modelRoot) String() string {
	return "(" + r.low.RatString() + " " + r.high.RatString() + ")" + big.NewInt(int64(r.times)).String()
}

func middle(a, b *big.Rat) *big.Rat {
	sum := new(big.Rat).Add(a, b)
	return sum.Mul(sum, big.NewRat(1, 2))
}

// isolate returns the roots from 0 to 1, without multiplicities.
func (m model) isolate() []modelRoot {
	count := m.counter()
	var between func(a, b *big.Rat) []modelRoot
	point := func(x *big.Rat) []modelRoot {
		if m.at(x).Sign() != 0 {
			return nil
		}
		return []modelRoot{{low: x, high: x}}
	}
	between = func(a, b *big.Rat) []modelRoot {
		switch count(a, b) {
		case 0:
			return nil
		case 1:
			return []modelRoot{{low: a, high: b}}
		}
		mid := middle(a, b)
		return slices.Concat(between(a, mid), point(mid), between(mid, b))
	}
	zero, one := new(big.Rat), big.NewRat(1, 1)
	return slices.Concat(point(zero), between(zero, one), point(one))
}

// has reports whether m has a root that r contains.
func (m model) has(r modelRoot) bool {
	if r.low.Cmp(r.high) == 0 {
		return m.at(r.low).Sign() == 0
	}
	return m.counter()(r.low, r.high) > 0
}

// multiplicity returns how often m has the only root that r contains: with each step,
// all roots of m lose one of their multiplicity.
func (m model) multiplicity(r modelRoot) int {
	n := 0
	for m.has(r) {
		n++
		m = m.gcd(m.slope())
	}
	return n
}

// refine halves the interval of a root until it is narrow enough.
func (m model) refine(r modelRoot, width *big.Rat) modelRoot {
	count := m.counter()
	for new(big.Rat).Sub(r.high, r.low).Cmp(width) > 0 {
		mid := middle(r.low, r.high)
		switch {
		case m.at(mid).Sign() == 0:
			r.low, r.high = mid, mid
		case count(r.low, mid) == 1:
			r.high = mid
		default:
			r.low = mid
		}
	}
	return r
}

// signAt returns the sign of other at the root of m that r contains.
func (m model) signAt(r modelRoot, other model) int {
	if r.low.Cmp(r.high) == 0 {
		return other.at(r.low).Sign()
	}
	if common := m.gcd(other); common.counter()(r.low, r.high) > 0 {
		return 0
	}
	count := other.counter()
	for width := big.NewRat(1, 1); ; width = middle(new(big.Rat), width) {
		r = m.refine(r, width)
		if r.low.Cmp(r.high) == 0 || count(r.low, r.high) == 0 {
			return other.at(middle(r.low, r.high)).Sign()
		}
	}
}
