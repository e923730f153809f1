package rational

import (
	"brepkernel/api"
	"brepkernel/natural"
)

// Floor returns the greatest integer that is not greater.
func Floor(r api.Rat) api.Rat {
	return Down(r, 0)
}

// Down rounds down to k binary digits behind the point.
func Down(r api.Rat, k int) api.Rat {
	return round(r, k, r.Neg)
}

// Up rounds up to k binary digits behind the point.
func Up(r api.Rat, k int) api.Rat {
	return round(r, k, !r.Neg)
}

// round rounds to k binary digits behind the point, away from 0 or towards it.
func round(r api.Rat, k int, away bool) api.Rat {
	if len(r.Den) == 0 {
		return withSign(r.Neg, r)
	}
	k = max(0, min(api.MaxScale, k))
	num, _ := natural.Shift(r.Num, k)
	q, rest, _ := natural.Div(num, r.Den)
	if away && len(rest) > 0 {
		q = natural.Add(q, natural.Of(1))
	}
	scale, _ := natural.Shift(natural.Of(1), k)
	return lowest(r.Neg, q, scale)
}

// Bits returns the number of binary digits of the longer one of numerator and denominator.
func Bits(r api.Rat) int {
	return max(natural.Bits(r.Num), natural.Bits(denominator(r)))
}
