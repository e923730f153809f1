package rational

import (
	"slices"

	"brepkernel/api"
	"brepkernel/natural"
)

// Same reports whether two numbers are equal.
func Same(a, b api.Rat) bool {
	return a.Neg == b.Neg && slices.Equal(a.Num, b.Num) && slices.Equal(a.Den, b.Den)
}

// Cmp compares two numbers.
func Cmp(a, b api.Rat) int {
	sign, other := Sign(a), Sign(b)
	switch {
	case sign != other:
		return max(-1, min(1, sign-other))
	case sign < 0:
		return cmpSize(b, a)
	}
	return cmpSize(a, b)
}

// cmpSize compares two numbers without their signs.
func cmpSize(a, b api.Rat) int {
	x, ok := shortOf(a)
	if y, too := shortOf(b); ok && too {
		return x.cmpSize(y)
	}
	if slices.Equal(a.Den, b.Den) {
		return natural.Cmp(a.Num, b.Num)
	}
	den, other := denominator(a), denominator(b)
	// A product has as many digits as its factors together, or one less.
	more := natural.Bits(a.Num) + natural.Bits(other) - natural.Bits(b.Num) - natural.Bits(den)
	switch {
	case more > 1:
		return 1
	case more < -1:
		return -1
	}
	return natural.Cmp(times(a.Num, other), times(b.Num, den))
}

// Sign returns the sign.
func Sign(r api.Rat) int {
	switch {
	case len(r.Num) == 0:
		return 0
	case r.Neg:
		return -1
	}
	return 1
}

// Min returns the lesser one.
func Min(a, b api.Rat) api.Rat {
	if Cmp(a, b) <= 0 {
		return withSign(a.Neg, a)
	}
	return withSign(b.Neg, b)
}

// Max returns the greater one.
func Max(a, b api.Rat) api.Rat {
	if Cmp(a, b) >= 0 {
		return withSign(a.Neg, a)
	}
	return withSign(b.Neg, b)
}
