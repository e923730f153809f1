package span

import (
	"math/bits"

	"brepkernel/api"
	"brepkernel/rational"
)

// Root returns a span that contains all square roots.
func Root(s api.Span, k int) (api.Span, api.Errno) {
	if rational.Sign(s.Hi) < 0 {
		return api.Span{}, api.ErrRange
	}
	k = max(0, min(api.MaxScale, k))
	low := rootDown(s.Lo, k)
	high := low
	if !rational.Same(s.Lo, s.Hi) {
		high = rootDown(s.Hi, k)
	}
	if rational.Same(rational.Mul(high, high), s.Hi) {
		return api.Span{Lo: low, Hi: copied(high)}, api.OK
	}
	return api.Span{Lo: low, Hi: rational.Add(high, powerOfTwo(-k))}, api.OK
}

// rootDown returns the greatest multiple of 2^-k whose square is at most r, or 0
// if r is negative.
//
// Newton's method, rounded down to multiples of 2^-k, falls from a number above
// the root until it is there. Each step takes away at least half of what is
// missing, soon much more: the count is never reached, but it is a bound also
// for what is no valid number.
func rootDown(r api.Rat, k int) api.Rat {
	if rational.Sign(r) <= 0 {
		return api.Rat{}
	}
	x := aboveRoot(r, k)
	for range k + rational.Bits(r) {
		q, _ := rational.Quo(r, x)
		next := rational.Down(rational.Mid(x, rational.Down(q, k)), k)
		if rational.Cmp(next, x) >= 0 {
			break
		}
		x = next
	}
	return x
}

// aboveRoot returns a power of 2 that is a multiple of 2^-k and greater than the
// root of r. It is the least such number, or twice it: Newton's method is slow
// from far away.
func aboveRoot(r api.Rat, k int) api.Rat {
	n := digits(r.Num) + 1 - max(1, digits(r.Den)) // r is less than 2^n
	return powerOfTwo(max(-k, (n+1)>>1))
}

// digits returns the number of binary digits of a magnitude.
func digits(limbs []uint32) int {
	n := len(limbs)
	if n == 0 {
		return 0
	}
	return 32*(n-1) + bits.Len32(limbs[n-1])
}

// powerOfTwo returns 2^n. The exponent may be negative.
func powerOfTwo(n int) api.Rat {
	size := max(n, -n)
	limbs := make([]uint32, size/32+1)
	limbs[size/32] = 1 << (size % 32)
	power := api.Rat{Num: limbs}
	if n < 0 {
		power, _ = rational.Quo(rational.Int(1), power)
	}
	return power
}
