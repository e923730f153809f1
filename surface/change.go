package surface

import (
	"slices"

	"brepkernel/api"
	"brepkernel/curve"
	"brepkernel/knots"
	"brepkernel/rational"
	"brepkernel/span"
	"brepkernel/vector"
)

// InsertU returns the surface with a further knot of u.
func InsertU(s api.Surface, t api.Rat) (api.Surface, api.Errno) {
	return alongU(s, inserting(t))
}

// InsertV returns the surface with a further knot of v.
func InsertV(s api.Surface, t api.Rat) (api.Surface, api.Errno) {
	return alongV(s, inserting(t))
}

// inserting returns the insertion of t into the knots.
func inserting(t api.Rat) change {
	return func(c api.Curve) (api.Curve, api.Errno) { return curve.Insert(c, t) }
}

// ElevateU returns the surface with a degree of u greater by one.
func ElevateU(s api.Surface) (api.Surface, api.Errno) {
	return alongU(s, curve.Elevate)
}

// ElevateV returns the surface with a degree of v greater by one.
func ElevateV(s api.Surface) (api.Surface, api.Errno) {
	return alongV(s, curve.Elevate)
}

// Cut returns the part over two spans.
func Cut(s api.Surface, u, v api.Span) (api.Surface, api.Errno) {
	domainU, domainV := Domain(s)
	if !partOf(domainU, u) || !partOf(domainV, v) {
		return api.Surface{}, api.ErrRange
	}
	strip, e := alongV(s, cutting(v))
	if e != api.OK {
		return api.Surface{}, e
	}
	part, e := alongU(strip, cutting(u))
	// Curves that are not to be cut still have the memory of the argument.
	return copied(part), e
}

// partOf reports whether a span is a part of a domain, and no single point.
func partOf(domain, s api.Span) bool {
	return span.Valid(s) && rational.Cmp(s.Lo, s.Hi) < 0 && span.Inside(s, domain)
}

// cutting returns the change of curves to their parts over a span.
func cutting(to api.Span) change {
	return func(c api.Curve) (api.Curve, api.Errno) {
		var e api.Errno
		domain := curve.Domain(c)
		if rational.Cmp(domain.Lo, to.Lo) < 0 {
			_, c, e = curve.Split(c, to.Lo)
		}
		if e == api.OK && rational.Cmp(to.Hi, domain.Hi) < 0 {
			c, _, e = curve.Split(c, to.Hi)
		}
		return c, e
	}
}

// Swap exchanges u and v.
func Swap(s api.Surface) api.Surface {
	return copied(turned(s))
}

// MirrorU returns the surface with u in the other direction.
func MirrorU(s api.Surface) api.Surface {
	out := copied(s)
	out.KnotsU = knots.Mirror(s.KnotsU)
	slices.Reverse(out.Poles)
	return out
}

// MirrorV returns the surface with v in the other direction.
func MirrorV(s api.Surface) api.Surface {
	out := copied(s)
	out.KnotsV = knots.Mirror(s.KnotsV)
	for _, row := range out.Poles {
		slices.Reverse(row)
	}
	return out
}

// Move returns the image of a surface.
func Move(s api.Surface, m api.Map) api.Surface {
	out := copied(s)
	for _, row := range out.Poles {
		for j, p := range row {
			row[j].P = vector.Apply(m, p.P)
		}
	}
	return out
}

// Patches returns the Bezier patches, by u and then by v.
func Patches(s api.Surface) []api.Surface {
	if fits(s) != api.OK {
		return nil
	}
	var out []api.Surface
	for _, strip := range pieces(turned(s)) {
		out = append(out, pieces(turned(strip))...)
	}
	return out
}
