package natural

import "math/bits"

// windowBits is the number of leading binary digits with which lead works: so
// few that its cofactors are less than 2^31, and replace stays within an int64.
const windowBits = 62

// Gcd returns the greatest common divisor.
//
// Powers of 2 are taken out first: many denominators have little else.
func Gcd(a, b []uint32) []uint32 {
	a, b = trim(a), trim(b)
	switch {
	case len(a) == 0:
		return copied(b)
	case len(b) == 0:
		return copied(a)
	case len(a) <= 2 && len(b) <= 2:
		return Of(gcdSmall(small(a), small(b)))
	}
	twosA, twosB := twos(a), twos(b)
	return raised(gcdOdd(lowered(a, uint(twosA)), lowered(b, uint(twosB))), min(twosA, twosB))
}

// twos returns how often 2 divides a number other than 0.
func twos(a []uint32) int {
	i := 0
	for a[i] == 0 {
		i++
	}
	return limbBits*i + bits.TrailingZeros32(a[i])
}

// gcdOdd returns the greatest common divisor of two odd numbers, and overwrites
// them.
func gcdOdd(a, b []uint32) []uint32 {
	if Cmp(a, b) < 0 {
		a, b = b, a
	}
	for len(a) > 2 && len(b) > 0 {
		if len(b) == 1 && b[0] == 1 {
			return b
		}
		a, b = lessen(a, b)
	}
	if len(a) > 2 {
		return a
	}
	return Of(gcdSmall(small(a), small(b)))
}

// gcdSmall halves and subtracts, which is faster than to divide. x is not 0.
func gcdSmall(x, y uint64) uint64 {
	twos := bits.TrailingZeros64(x | y)
	x >>= bits.TrailingZeros64(x)
	for y != 0 && x != 1 {
		y >>= bits.TrailingZeros64(y)
		x, y = min(x, y), max(x, y)-min(x, y)
	}
	return x << twos
}

// lessen returns two lesser numbers with the same greatest common divisor, the
// greater one first, and overwrites a and b. a has more than two limbs and is
// not less than b, which is not 0.
//
// This is Lehmer's algorithm: many steps of Euclid's are done on leading digits
// and then on the numbers at once. If these digits decide no step, one is done
// by a division.
func lessen(a, b []uint32) ([]uint32, []uint32) {
	from := Bits(a) - windowBits
	m := lead(window(a, from), window(b, from))
	if m == unchanged() {
		_, rest, _ := Div(a, b)
		return b, rest
	}
	return replace(a, b, m)
}

// window returns the binary digits of a from the one of the weight 2^from on,
// where at most 64 are left.
func window(a []uint32, from int) int64 {
	limb := func(i int) uint64 {
		if i < len(a) {
			return uint64(a[i])
		}
		return 0
	}
	i, r := from/limbBits, from%limbBits
	return int64(limb(i)>>r | limb(i+1)<<(limbBits-r) | limb(i+2)<<(2*limbBits-r))
}

// matrix has a row for each of two numbers: how it is made of two others.
type matrix [2][2]int64

func unchanged() matrix {
	return matrix{{1, 0}, {0, 1}}
}

// lead does steps of Euclid's algorithm on x and y, the leading digits of two
// numbers, as long as they are certainly right for the numbers themselves, and
// returns what they make of the numbers.
//
// The digits that are left out change what a row makes by less than its second
// factor, which is the greater one. So Collins' condition, that rest is at least
// that factor and last - rest at least the sum of it and the one before, says
// that the numbers, too, remain in order and are not negative.
func lead(x, y int64) matrix {
	m := unchanged()
	for y != 0 {
		times, rest := x/y, x%y
		row := [2]int64{m[0][0] - times*m[1][0], m[0][1] - times*m[1][1]}
		factor := size(row[1])
		if rest < factor || y-rest < factor+size(m[1][1]) {
			break
		}
		x, y = y, rest
		m = matrix{m[1], row}
	}
	return m
}

func size(n int64) int64 {
	return max(n, -n)
}

// replace puts what m makes of a and b into their place. Neither of the results
// is greater than b, so that the limbs that a has beyond it do not matter.
func replace(a, b []uint32, m matrix) ([]uint32, []uint32) {
	a = a[:len(b)]
	var first, second int64
	for i := range len(b) {
		x, y := int64(a[i]), int64(b[i])
		first += m[0][0]*x + m[0][1]*y
		second += m[1][0]*x + m[1][1]*y
		a[i], b[i] = uint32(first), uint32(second)
		first >>= limbBits
		second >>= limbBits
	}
	return trim(a), trim(b)
}
