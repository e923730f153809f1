package natural

import (
	"math/bits"
	"slices"

	"brepkernel/api"
)

// Div returns the quotient and the rest.
func Div(a, b []uint32) (q, r []uint32, e api.Errno) {
	a, b = trim(a), trim(b)
	switch {
	case len(b) == 0:
		return nil, nil, api.ErrZero
	case Cmp(a, b) < 0:
		return nil, copied(a), api.OK
	case len(a) <= 2:
		x, y := small(a), small(b)
		return Of(x / y), Of(x % y), api.OK
	case len(b) == 1:
		q = copied(a)
		rest := divideLimb(q, b[0])
		return trim(q), Of(uint64(rest)), api.OK
	case b[0] == 0:
		// The lowest limbs of a are those of the rest: a power of 2 is a short divisor.
		n := twos(b) / limbBits
		q, r, e = Div(a[n:], b[n:])
		return q, trim(slices.Concat(a[:n], r)), e
	}
	q, r = divideLong(a, b)
	return q, r, api.OK
}

// divideLimb divides a by d, in place, and returns the rest.
func divideLimb(a []uint32, d uint32) uint32 {
	var rest uint64
	for i := len(a) - 1; i >= 0; i-- {
		rest = rest<<limbBits | uint64(a[i])
		a[i] = uint32(rest / uint64(d))
		rest %= uint64(d)
	}
	return uint32(rest)
}

// divideLong is the long division by two or more limbs, for an a that is not
// less than b. Both are raised until the highest bit of the divisor is set:
// only then is the guess of a limb at most 1 too large.
func divideLong(a, b []uint32) (q, r []uint32) {
	n := len(b)
	up := bits.LeadingZeros32(b[n-1])
	divisor, rest := make([]uint32, n+1), make([]uint32, len(a)+1)
	raise(divisor, b, up)
	raise(rest, a, up)
	divisor = divisor[:n]
	q = make([]uint32, len(a)-n+1)
	for i := len(q) - 1; i >= 0; i-- {
		// What remains of these limbs is less than the divisor: the highest of
		// them is not looked at again.
		part, high := rest[i:i+n], rest[i+n]
		q[i] = guess(high, part, divisor)
		if subtract(high, part, divisor, q[i]) {
			addBack(part, divisor)
			q[i]--
		}
	}
	r = rest[:n]
	lower(r, up)
	return trim(q), trim(r)
}

// guess returns the quotient of part, with the limb high above it, and divisor,
// or 1 more: that of the three highest limbs and the two highest ones.
func guess(high uint32, part, divisor []uint32) uint32 {
	n := len(divisor)
	low := uint64(part[n-1])<<limbBits | uint64(part[n-2])
	by := uint64(divisor[n-1])<<limbBits | uint64(divisor[n-2])
	x, _ := bits.Div64(uint64(high), low, by)
	return uint32(min(x, 1<<limbBits-1))
}

// subtract takes x times divisor from part, with the limb high above it, and
// reports whether the difference is below 0.
func subtract(high uint32, part, divisor []uint32, x uint32) bool {
	var carry, borrow uint64
	for i, y := range divisor {
		carry += uint64(x) * uint64(y)
		d := uint64(part[i]) - uint64(uint32(carry)) - borrow
		part[i] = uint32(d)
		borrow = d >> 63
		carry >>= limbBits
	}
	return uint64(high) < carry+borrow
}

// addBack adds divisor to part; what is carried ends the borrow of subtract.
func addBack(part, divisor []uint32) {
	var carry uint64
	for i, y := range divisor {
		carry += uint64(part[i]) + uint64(y)
		part[i] = uint32(carry)
		carry >>= limbBits
	}
}
