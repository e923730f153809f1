package roots

import (
	"iter"
	"slices"

	"brepkernel/api"
	"brepkernel/numbers"
	"brepkernel/rational"
)

// common returns the greatest common divisor of two primitive polynomials.
//
// Euclid's algorithm makes long numbers of short coefficients. So it is left to
// integers here: to the values at a great number x. Their greatest common divisor
// has, to the base x, digits that are the wanted coefficients times a number.
//
// If a polynomial of such digits divides f and g, it lacks nothing: the value at x of
// what it lacked would divide all digits, which are at most x / 2, but would be
// greater than that, because x is more than twice as far from 0 as all roots of f. And
// it divides f and g as soon as x is great enough for the number, which is a divisor
// of the resultant of their other factors.
func common(f, g []api.Rat) []api.Rat {
	if len(f) == 0 {
		return g
	}
	if len(g) == 0 {
		return f
	}
	for n := longest(f) + 2; ; n *= 2 {
		x := twoTo(n)
		_, h := primitive(digits(divisor(valueAt(f, x), valueAt(g, x)), x))
		if divides(h, f) && divides(h, g) {
			return h
		}
	}
}

// longest returns the greatest number of binary digits of the coefficients.
func longest(c []api.Rat) int {
	n := 0
	for _, x := range c {
		n = max(n, rational.Bits(x))
	}
	return n
}

// valueAt returns the value at x.
func valueAt(c []api.Rat, x api.Rat) api.Rat {
	var sum api.Rat
	for _, y := range slices.Backward(c) {
		sum = rational.Add(rational.Mul(x, sum), y)
	}
	return sum
}

// digits returns the digits of an integer to an even base, the lowest first, each
// from -base / 2 to base / 2.
func digits(n, base api.Rat) []api.Rat {
	var out []api.Rat
	middle := rational.Mid(api.Rat{}, base)
	for rational.Sign(n) != 0 {
		high := rational.Floor(numbers.Over(rational.Add(n, middle), base))
		out = append(out, rational.Sub(n, rational.Mul(base, high)))
		n = high
	}
	return out
}

// divides reports whether a primitive polynomial divides another one. If it does,
// the quotient has integer coefficients.
func divides(h, f []api.Rat) bool {
	if len(numbers.Over(last(f), last(h)).Den) > 0 {
		return false
	}
	_, rest := divide(f, h)
	return len(rest) == 0
}

// peel returns the square-free polynomial with the roots of a primitive one, and the
// quotient of both, which has the roots that occur more than once. Both are
// primitive.
func peel(f []api.Rat) (layer, rest []api.Rat) {
	_, g := primitive(slope(f))
	rest = common(f, g)
	layer, _ = divide(f, rest)
	return layer, rest
}

// layers yields the square-free polynomials whose roots are those that a primitive
// polynomial has at least once, at least twice, .., as long as there are any.
func layers(f []api.Rat) iter.Seq[api.Poly] {
	return func(yield func(api.Poly) bool) {
		for len(f) > 1 {
			layer, rest := peel(f)
			if !yield(poly(layer)) {
				return
			}
			f = rest
		}
	}
}
