package rational

import (
	"cmp"
	"math/bits"

	"brepkernel/api"
)

// short is a number whose numerator and denominator fit into a word each. The
// denominator is not 0; the terms need not be the lowest ones. Most numbers are
// short, and sums and products of words need no memory.
type short struct {
	neg      bool
	num, den uint64
}

// shortOf returns a number as a short one, if its limbs permit that.
func shortOf(r api.Rat) (short, bool) {
	if len(r.Num) > 2 || len(r.Den) > 2 {
		return short{}, false
	}
	x := short{neg: r.Neg, num: word(r.Num), den: 1}
	if len(r.Den) > 0 {
		x.den = word(r.Den)
	}
	return x, x.den != 0
}

// word returns the value of a magnitude of at most two limbs.
func word(a []uint32) uint64 {
	var n uint64
	for i, x := range a {
		n |= uint64(x) << (32 * i)
	}
	return n
}

// rat returns x in lowest terms.
func (x short) rat() api.Rat {
	d := commonWord(x.num, x.den)
	var limbs [4]uint32
	num := spread(limbs[:2], x.num/d)
	den := spread(limbs[2:], x.den/d)
	return owned(x.neg, num, den)
}

// spread puts the limbs of n into two, and returns those that are not 0 above
// all others.
func spread(limbs []uint32, n uint64) []uint32 {
	limbs[0], limbs[1] = uint32(n), uint32(n>>32)
	return magnitude(limbs)
}

// commonWord returns the greatest common divisor of x and a y other than 0. It
// halves and subtracts, which is faster than to divide.
func commonWord(x, y uint64) uint64 {
	twos := bits.TrailingZeros64(x | y)
	y >>= bits.TrailingZeros64(y)
	for x != 0 && y != 1 {
		x >>= bits.TrailingZeros64(x)
		x, y = max(x, y)-min(x, y), min(x, y)
	}
	return y << twos
}

// plus returns x + y, if what is computed fits into words.
func (x short) plus(y short) (short, bool) {
	n, first := mulWords(x.num, y.den)
	m, second := mulWords(y.num, x.den)
	den, third := mulWords(x.den, y.den)
	if !first || !second || !third {
		return short{}, false
	}
	switch {
	case x.neg == y.neg:
		sum, carry := bits.Add64(n, m, 0)
		return short{neg: x.neg, num: sum, den: den}, carry == 0
	case n < m:
		return short{neg: y.neg, num: m - n, den: den}, true
	}
	return short{neg: x.neg, num: n - m, den: den}, true
}

// timesSize returns x * y without its sign, if the products fit into words.
func (x short) timesSize(y short) (short, bool) {
	num, first := mulWords(x.num, y.num)
	den, second := mulWords(x.den, y.den)
	return short{num: num, den: den}, first && second
}

// mulWords returns x * y, and whether it fits into a word.
func mulWords(x, y uint64) (uint64, bool) {
	high, low := bits.Mul64(x, y)
	return low, high == 0
}

// cmpSize compares the numbers without their signs.
func (x short) cmpSize(y short) int {
	high, low := bits.Mul64(x.num, y.den)
	otherHigh, otherLow := bits.Mul64(y.num, x.den)
	return cmp.Or(cmp.Compare(high, otherHigh), cmp.Compare(low, otherLow))
}
