package nearest

import (
	"slices"

	"brepkernel/api"
	"brepkernel/numbers"
	"brepkernel/rational"
	"brepkernel/span"
	"brepkernel/vector"
)

// search is the boxes in which all nearest points lie, and the least squared distance
// of a point that was looked at.
type search[T any] struct {
	kind  kind[T]
	point api.Point
	boxes []box[T]
	best  api.Rat
}

// box is the domain of a part of a curve or of a surface.
type box[T any] struct {
	part   T
	spans  []api.Span
	halved int     // how often, in all directions together
	low    api.Rat // no point of the part has a lesser squared distance
}

// begin returns the search with the pieces of a curve or of a surface.
func begin[T any](k kind[T], whole T, p api.Point) search[T] {
	s := search[T]{kind: k, point: p}
	for i, part := range k.pieces(whole) {
		if i == 0 {
			s.best = square(p, k.corners(part)[0])
		}
		s.add(part, 0)
	}
	return s
}

// add puts a box at the end of the list, and looks at its corners. Those of a half that
// are not new are corners of the box that was halved.
func (s *search[T]) add(part T, halved int) {
	for _, q := range s.kind.corners(part) {
		s.best = rational.Min(s.best, square(s.point, q))
	}
	low := fromBox(s.point, s.kind.box(part))
	s.boxes = append(s.boxes, box[T]{part, s.kind.domain(part), halved, low})
}

// square returns the squared distance of two points.
func square(p, q api.Point) api.Rat {
	away := vector.Sub(p, q)
	return vector.Dot(away, away)
}

// fromBox returns the squared distance of p from the nearest point of a box.
func fromBox(p api.Point, b api.Box) api.Rat {
	var foot api.Point
	for i, s := range b {
		foot[i] = rational.Max(s.Lo, rational.Min(p[i], s.Hi))
	}
	return square(p, foot)
}

// drop removes the boxes that are farther away than the best point.
func (s *search[T]) drop() {
	s.boxes = slices.DeleteFunc(s.boxes, func(b box[T]) bool { return rational.Cmp(b.low, s.best) > 0 })
}

// wider returns the number of boxes that are wider than a width.
func (s *search[T]) wider(width api.Rat) int {
	count := 0
	for _, b := range s.boxes {
		if b.wider(width) {
			count++
		}
	}
	return count
}

// wider reports whether one of the spans is wider than a width. No span is a point: so
// all of them are wider than 0.
func (b box[T]) wider(width api.Rat) bool {
	return slices.ContainsFunc(b.spans, func(s api.Span) bool { return rational.Cmp(span.Width(s), width) > 0 })
}

// halve puts two halves in the place of each box that is wider than a width.
func (s *search[T]) halve(width api.Rat) api.Errno {
	boxes := s.boxes
	s.boxes = nil
	for _, b := range boxes {
		if !b.wider(width) {
			s.boxes = append(s.boxes, b)
			continue
		}
		for _, half := range b.halves() {
			// What is cut from a part is what would be cut from the piece.
			part, e := s.kind.cut(b.part, half)
			if e != api.OK {
				return e
			}
			s.add(part, b.halved+1)
		}
	}
	return api.OK
}

// halves returns the spans of the two halves. The directions take turns: so it is always
// one that was halved least often.
func (b box[T]) halves() [2][]api.Span {
	i := b.halved % len(b.spans)
	lower, upper := slices.Clone(b.spans), slices.Clone(b.spans)
	lower[i], upper[i] = span.Halves(b.spans[i])
	return [2][]api.Span{lower, upper}
}

// result returns what was found. Boxes are left, if the curve or surface is valid.
func (s *search[T]) result() (api.Span, []api.Cell, api.Errno) {
	if len(s.boxes) == 0 {
		return api.Span{}, nil, api.ErrArg
	}
	first := slices.MinFunc(s.boxes, func(a, b box[T]) int { return rational.Cmp(a.low, b.low) })
	cells := numbers.Each(s.boxes, func(b box[T]) api.Cell { return api.Cell{A: b.spans, Kind: api.KindOpen} })
	return api.Span{Lo: first.low, Hi: s.best}, cells, api.OK
}
