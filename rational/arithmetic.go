package rational

import (
	"brepkernel/api"
	"brepkernel/natural"
)

// Neg returns the number with the other sign.
func Neg(r api.Rat) api.Rat {
	return withSign(!r.Neg, r)
}

// Abs returns the size.
func Abs(r api.Rat) api.Rat {
	return withSign(false, r)
}

// withSign returns the number with this sign.
func withSign(neg bool, r api.Rat) api.Rat {
	return owned(neg, r.Num, denominator(r))
}

// Add returns the sum.
func Add(a, b api.Rat) api.Rat {
	return sum(a, b, b.Neg)
}

// Sub returns the difference.
func Sub(a, b api.Rat) api.Rat {
	return sum(a, b, !b.Neg)
}

// sum returns the sum of a and the number that has the size of b and the sign
// neg.
//
// With d the greatest common divisor of the denominators, what the numerator
// and the least common denominator have in common divides d: these are smaller
// numbers than those that cross multiplication makes (Knuth, 4.5.1).
func sum(a, b api.Rat, neg bool) api.Rat {
	if x, ok := shortOf(a); ok {
		if y, ok := shortOf(b); ok {
			y.neg = neg
			if z, ok := x.plus(y); ok {
				return z.rat()
			}
		}
	}
	denA, denB := denominator(a), denominator(b)
	d := common(denA, denB)
	partA, partB := without(denA, d), without(denB, d)
	neg, num := sumNums(a.Neg, times(a.Num, partB), neg, times(b.Num, partA))
	rest := common(num, d)
	return owned(neg, without(num, rest), times(partA, without(denB, rest)))
}

// sumNums returns the sum of two integers, the signs of which are given
// separately.
func sumNums(negA bool, a []uint32, negB bool, b []uint32) (bool, []uint32) {
	switch {
	case negA == negB:
		return negA, natural.Add(a, b)
	case natural.Cmp(a, b) < 0:
		num, _ := natural.Sub(b, a)
		return negB, num
	}
	num, _ := natural.Sub(a, b)
	return negA, num
}

// Mul returns the product.
func Mul(a, b api.Rat) api.Rat {
	return mul(a.Neg != b.Neg, a, b.Num, denominator(b))
}

// Quo returns the quotient.
func Quo(a, b api.Rat) (api.Rat, api.Errno) {
	if Sign(b) == 0 {
		return api.Rat{}, api.ErrZero
	}
	return mul(a.Neg != b.Neg, a, denominator(b), b.Num), api.OK
}

// mul returns the size of a times num / den, with the sign neg. Common divisors
// are taken out of the factors, which are smaller than the products.
func mul(neg bool, a api.Rat, num, den []uint32) api.Rat {
	if x, ok := shortOf(a); ok {
		if y, ok := shortOf(api.Rat{Num: num, Den: den}); ok {
			if z, ok := x.timesSize(y); ok {
				z.neg = neg
				return z.rat()
			}
		}
	}
	denA := denominator(a)
	first, second := common(a.Num, den), common(num, denA)
	return owned(neg,
		times(without(a.Num, first), without(num, second)),
		times(without(denA, second), without(den, first)))
}

// Mid returns the number in the middle.
func Mid(a, b api.Rat) api.Rat {
	return Mul(Add(a, b), api.Rat{Num: []uint32{1}, Den: []uint32{2}})
}
