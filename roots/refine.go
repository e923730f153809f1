package roots

import (
	"brepkernel/api"
	"brepkernel/bernstein"
	"brepkernel/numbers"
	"brepkernel/rational"
	"brepkernel/span"
)

// Refine returns a root in a narrower interval.
func Refine(p api.Poly, r api.Root, width api.Rat) (api.Root, api.Errno) {
	if !rational.Valid(width) || rational.Sign(width) <= 0 {
		return api.Root{}, api.ErrRange
	}
	s, e := fitted(p, r)
	if e != api.OK {
		return api.Root{}, e
	}
	return api.Root{In: halved(s, r.In, halvings(r.In, width)), Times: r.Times}, api.OK
}

// SignAt returns the sign of q at a root of p.
//
// If it is not 0, the interval is halved until q has one sign in it: once, three
// times, seven times, .., since it takes little more time to halve twice as often.
func SignAt(p api.Poly, r api.Root, q api.Poly) (int, api.Errno) {
	s, e := fitted(p, r)
	switch {
	case e != api.OK:
		return 0, e
	case !bernstein.Valid(q):
		return 0, api.ErrArg
	case countIn(Gcd(s, q), r.In) > 0:
		return 0, api.OK
	}
	for times := 0; ; times += times + 1 {
		in := halved(s, r.In, times)
		part := bernstein.Part(q, in.Lo, in.Hi)
		if bernstein.Variations(part) == 0 {
			return firstSign(part), api.OK
		}
	}
}

// fitted returns the square-free polynomial with the roots of p, if r fits p.
func fitted(p api.Poly, r api.Root) (api.Poly, api.Errno) {
	f, e := whole(p)
	if e != api.OK {
		return nil, e
	}
	layer, _ := peel(f)
	s := poly(layer)
	if !span.Valid(r.In) || countIn(s, r.In) != 1 {
		return nil, api.ErrArg
	}
	return s, api.OK
}

// firstSign returns the sign of the first coefficient that is not 0. Of those of
// powers, it is the sign of the polynomial at small positive numbers.
func firstSign(c []api.Rat) int {
	for _, r := range c {
		if sign := rational.Sign(r); sign != 0 {
			return sign
		}
	}
	return 0
}

// halvings returns how often a span is to be halved to be at most as wide as width.
func halvings(in api.Span, width api.Rat) int {
	times := 0
	for w := span.Width(in); rational.Cmp(w, width) > 0; w = rational.Mid(api.Rat{}, w) {
		times++
	}
	return times
}

// halved returns what is left of a span with a single root of a square-free
// polynomial inside when it has been halved so many times: one of the parts, or the
// root, if it is an end of parts.
func halved(s api.Poly, in api.Span, times int) api.Span {
	_, f := primitive(powers(bernstein.Part(s, in.Lo, in.Hi)))
	parts := twoTo(times)
	end := func(index api.Rat) api.Rat {
		return rational.Add(in.Lo, rational.Mul(span.Width(in), numbers.Over(index, parts)))
	}
	index := cell(f, times)
	if rational.Sign(index) > 0 && rational.Sign(valueAt(f, numbers.Over(index, parts))) == 0 {
		return span.Point(end(index))
	}
	return span.Of(end(index), end(rational.Add(index, rational.Int(1))))
}

// cell returns the index of the part of [0, 1], halved so many times, in which the
// only root of f between 0 and 1 is. A part has its lower end, but not its upper one.
//
// After half of the halvings, f is nearly a straight line in the part with the root.
// Where that line is 0, the search begins: with neighbours, then with others in steps
// each of which is twice the one before, and with the middle of what is left as soon
// as these would lead out of it.
func cell(f []api.Rat, times int) api.Rat {
	if times == 0 {
		return api.Rat{}
	}
	parts, more := twoTo(times), twoTo(times-times/2)
	value := func(index api.Rat) api.Rat { return valueAt(f, numbers.Over(index, parts)) }
	low := rational.Mul(cell(f, times/2), more)
	high := rational.Add(low, more)
	next := crossing(low, high, value(low), value(high))
	one := rational.Int(1)
	for step := one; rational.Cmp(rational.Sub(high, low), one) > 0; step = rational.Add(step, step) {
		if rational.Cmp(next, low) <= 0 || rational.Cmp(next, high) >= 0 {
			next = rational.Floor(rational.Mid(low, high))
		}
		if rational.Sign(value(next)) == -firstSign(f) {
			high, next = next, rational.Sub(next, step)
		} else {
			low, next = next, rational.Add(next, step)
		}
	}
	return low
}

// crossing returns the integer between low and high at or next to which the straight
// line through these values is 0.
func crossing(low, high, atLow, atHigh api.Rat) api.Rat {
	way := numbers.Over(rational.Mul(rational.Sub(high, low), atLow), rational.Sub(atLow, atHigh))
	one := rational.Int(1)
	return rational.Max(rational.Add(low, one), rational.Min(rational.Sub(high, one), rational.Floor(rational.Add(low, way))))
}
