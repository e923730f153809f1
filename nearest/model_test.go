package nearest_test

import (
	"fmt"
	"math/big"
	"slices"
	"strconv"
	"strings"

	"brepkernel/api"
	"brepkernel/nearest"
)

// triple is a point in space.
type triple [3]*big.Rat

func tripleOf(p api.Point) triple { return triple{value(p[0]), value(p[1]), value(p[2])} }

func (p triple) point() api.Point { return api.Point{rat(p[0]), rat(p[1]), rat(p[2])} }

// from returns the squared distance from q.
func (p triple) from(q triple) *big.Rat {
	sum := new(big.Rat)
	for i, x := range p {
		away := minus(x, q[i])
		sum = plus(sum, times(away, away))
	}
	return sum
}

// ends are those of a span.
type ends [2]*big.Rat

func (e ends) width() *big.Rat  { return minus(e[1], e[0]) }
func (e ends) middle() *big.Rat { return over(plus(e[0], e[1]), big.NewRat(2, 1)) }

// weighted is a pole in homogeneous coordinates: W x, W y, W z and W.
type weighted [4]*big.Rat

func weightedOf(p api.Pole) weighted {
	w := value(p.W)
	return weighted{times(w, value(p.P[0])), times(w, value(p.P[1])), times(w, value(p.P[2])), w}
}

func (q weighted) point() triple { return triple{over(q[0], q[3]), over(q[1], q[3]), over(q[2], q[3])} }

// toward returns the coordinates for this share of the way from q to r.
func (q weighted) toward(r weighted, share *big.Rat) weighted {
	var out weighted
	for i := range out {
		out[i] = between(q[i], r[i], share)
	}
	return out
}

// direction is the degree and the knots of a parameter.
type direction struct {
	degree int
	knots  []*big.Rat
}

// intervals returns the indices of those between different neighbouring knots.
func (d direction) intervals() []int {
	var out []int
	for i, x := range d.knots[1:] {
		if d.knots[i].Cmp(x) < 0 {
			out = append(out, i)
		}
	}
	return out
}

// polar returns the polar form of the polynomials on an interval, by de Boor's scheme.
func (d direction) polar(interval int, poles []weighted, at []*big.Rat) weighted {
	first := interval - d.degree
	c := slices.Clone(poles[first : interval+1])
	for r, t := range at {
		for i := d.degree; i > r; i-- {
			lo, hi := d.knots[first+i], d.knots[interval+i-r]
			c[i] = c[i-1].toward(c[i], over(minus(t, lo), minus(hi, lo)))
		}
	}
	return c[d.degree]
}

// part returns the poles of the polynomials of an interval over a span.
func (d direction) part(interval int, poles []weighted, over ends) []weighted {
	var out []weighted
	for j := range d.degree + 1 {
		at := slices.Concat(slices.Repeat(over[:1], d.degree-j), slices.Repeat(over[1:], j))
		out = append(out, d.polar(interval, poles, at))
	}
	return out
}

// operand is a curve or, if this has no degree, a surface.
type operand struct {
	curve   api.Curve
	surface api.Surface
}

func (o operand) nearest(p api.Point, prec api.Prec) (api.Span, []api.Cell, api.Errno) {
	if o.curve.Degree != 0 {
		return nearest.Curve(o.curve, p, prec)
	}
	return nearest.Surface(o.surface, p, prec)
}

// String returns the operand as a text.
func (o operand) String() string {
	pole := func(p api.Pole) string { return showPoint(p.P) + " " + show(p.W) }
	row := func(l []api.Pole) string { return strings.Join(each(l, pole), "; ") }
	if c := o.curve; c.Degree != 0 {
		return strconv.Itoa(c.Degree) + ": " + show(c.Knots...) + ": " + row(c.Poles)
	}
	s := o.surface
	return fmt.Sprint(s.U, " ", s.V, ": ", show(s.KnotsU...), ": ", show(s.KnotsV...), ": ", strings.Join(each(s.Poles, row), " | "))
}

// model is a curve or a surface. A curve has rows of one pole.
type model struct {
	directions []direction
	poles      [][]weighted
}

func modelOf(o operand) model {
	if c := o.curve; c.Degree != 0 {
		row := func(p api.Pole) []weighted { return []weighted{weightedOf(p)} }
		return model{[]direction{{c.Degree, each(c.Knots, value)}}, each(c.Poles, row)}
	}
	s := o.surface
	row := func(l []api.Pole) []weighted { return each(l, weightedOf) }
	return model{[]direction{{s.U, each(s.KnotsU, value)}, {s.V, each(s.KnotsV, value)}}, each(s.Poles, row)}
}

func turned(rows [][]weighted) [][]weighted {
	out := make([][]weighted, len(rows[0]))
	for _, row := range rows {
		for j, q := range row {
			out[j] = append(out[j], q)
		}
	}
	return out
}

// piece is a box of parameters in a piece or a patch: the intervals of the knots, the
// spans, how often each of them was halved, and the square of the least distance from the
// box of the poles.
type piece struct {
	intervals []int
	spans     []ends
	halved    []int
	low       *big.Rat
}

// part returns the poles of the part over a box.
func (m model) part(b piece) [][]weighted {
	rows := m.poles
	for i, d := range m.directions {
		lines := rows
		if i == 0 {
			lines = turned(rows)
		}
		lines = each(lines, func(l []weighted) []weighted { return d.part(b.intervals[i], l, b.spans[i]) })
		if i == 0 {
			lines = turned(lines)
		}
		rows = lines
	}
	return rows
}

// point returns the one with these parameters, which lie in these intervals.
func (m model) point(intervals []int, at ...*big.Rat) triple {
	rows := m.poles
	for i, d := range m.directions {
		equal := slices.Repeat(at[i:i+1], d.degree)
		rows = [][]weighted{each(turned(rows), func(l []weighted) weighted { return d.polar(intervals[i], l, equal) })}
		rows = turned(rows)
	}
	return rows[0][0].point()
}

// pieces returns the first boxes.
func (m model) pieces() []piece {
	out := []piece{{}}
	for _, d := range m.directions {
		var longer []piece
		for _, b := range out {
			for _, i := range d.intervals() {
				longer = append(longer, piece{
					intervals: append(slices.Clone(b.intervals), i),
					spans:     append(slices.Clone(b.spans), ends{d.knots[i], d.knots[i+1]}),
					halved:    append(slices.Clone(b.halved), 0),
				})
			}
		}
		out = longer
	}
	return out
}

// corners returns the points at the ends of all spans of a box.
func (m model) corners(b piece) []triple {
	all := [][]*big.Rat{nil}
	for _, s := range b.spans {
		var longer [][]*big.Rat
		for _, at := range all {
			longer = append(longer, append(slices.Clone(at), s[0]), append(slices.Clone(at), s[1]))
		}
		all = longer
	}
	return each(all, func(at []*big.Rat) triple { return m.point(b.intervals, at...) })
}

// fromBox returns the square of the least distance of p from the box of points.
func (p triple) fromBox(all []triple) *big.Rat {
	sum := new(big.Rat)
	for i, x := range p {
		l := each(all, func(q triple) *big.Rat { return q[i] })
		away := greatest([]*big.Rat{minus(least(l), x), minus(x, greatest(l)), new(big.Rat)})
		sum = plus(sum, times(away, away))
	}
	return sum
}

// low returns the square of the least distance of p from the box of the part over a box.
func (m model) low(p triple, b piece) *big.Rat {
	var all []triple
	for _, row := range m.part(b) {
		all = append(all, each(row, weighted.point)...)
	}
	return p.fromBox(all)
}

// halves returns the two halves of a box, and the points at the ends of their common
// side.
func (m model) halves(b piece) ([2]piece, []triple) {
	i := slices.Index(b.halved, slices.Min(b.halved))
	middle := b.spans[i].middle()
	with := func(s ends) piece {
		out := piece{b.intervals, slices.Clone(b.spans), slices.Clone(b.halved), nil}
		out.spans[i] = s
		out.halved[i]++
		return out
	}
	side := with(ends{middle, middle})
	return [2]piece{with(ends{b.spans[i][0], middle}), with(ends{middle, b.spans[i][1]})}, m.corners(side)
}

// found is what a search finds.
type found struct {
	low, best *big.Rat
	boxes     []piece
}

// search does what P15.1 and P15.2 say.
func (m model) search(p triple, depth, work int, width *big.Rat) found {
	list := m.pieces()
	var best *big.Rat
	look := func(all []triple) {
		for _, q := range all {
			if away := p.from(q); best == nil || away.Cmp(best) < 0 {
				best = away
			}
		}
	}
	for i, b := range list {
		list[i].low = m.low(p, b)
		look(m.corners(b))
	}
	wide := func(b piece) bool {
		return width.Sign() == 0 || slices.ContainsFunc(b.spans, func(s ends) bool { return s.width().Cmp(width) > 0 })
	}
	for rounds := 0; ; rounds++ {
		list = slices.DeleteFunc(list, func(b piece) bool { return b.low.Cmp(best) > 0 })
		count := 0
		for _, b := range list {
			if wide(b) {
				count++
			}
		}
		if count == 0 || rounds == depth || count > work {
			lows := each(list, func(b piece) *big.Rat { return b.low })
			return found{least(lows), best, list}
		}
		var next []piece
		for _, b := range list {
			if !wide(b) {
				next = append(next, b)
				continue
			}
			work--
			halves, side := m.halves(b)
			look(side)
			for _, half := range halves {
				half.low = m.low(p, half)
				next = append(next, half)
			}
		}
		list = next
	}
}

// String returns what was found as a text.
func (f found) String() string {
	box := func(b piece) string {
		return strings.Join(each(b.spans, func(s ends) string { return show(rat(s[0]), rat(s[1])) }), ", ")
	}
	return show(rat(f.low), rat(f.best)) + ": " + strings.Join(each(f.boxes, box), "; ")
}

// showSpans returns spans as a text.
func showSpans(l []api.Span) string {
	return strings.Join(each(l, func(s api.Span) string { return show(s.Lo, s.Hi) }), ", ")
}

// showFound returns a result in the same way. Cells that are not as they should be are
// shown with all they have.
func showFound(s api.Span, cells []api.Cell) string {
	return showSpans([]api.Span{s}) + ": " + strings.Join(each(cells, func(c api.Cell) string {
		if c.Kind != api.KindOpen || c.K != 0 || len(c.B) > 0 {
			return fmt.Sprint(c)
		}
		return showSpans(c.A)
	}), "; ")
}

// knotsOf returns knots from lo on, with n inner ones, each up to degree times.
func (s *source) knotsOf(degree, n int) []api.Rat {
	t := s.simple()
	out := slices.Repeat([]api.Rat{rat(t)}, degree+1)
	for i := range n + 1 {
		t = plus(t, s.positive())
		times := 1 + s.below(degree)
		if i == n {
			times = degree + 1
		}
		out = append(out, slices.Repeat([]api.Rat{rat(t)}, times)...)
	}
	return out
}

// row returns poles. A third of the rows have equal weights.
func (s *source) row(n int, next func() *big.Rat) []api.Pole {
	equal, w := s.below(3) == 0, s.positive()
	var out []api.Pole
	for range n {
		if !equal {
			w = s.positive()
		}
		out = append(out, api.Pole{P: s.point(next), W: rat(w)})
	}
	return out
}

func (s *source) point(next func() *big.Rat) api.Point {
	return api.Point{rat(next()), rat(next()), rat(next())}
}

// curveOf returns a curve with n inner knots.
func (s *source) curveOf(degree, n int, next func() *big.Rat) operand {
	knots := s.knotsOf(degree, n)
	return operand{curve: api.Curve{Degree: degree, Knots: knots, Poles: s.row(len(knots)-degree-1, next)}}
}

// surfaceOf returns a surface with n and m inner knots.
func (s *source) surfaceOf(u, v, n, m int, next func() *big.Rat) operand {
	x := api.Surface{U: u, V: v, KnotsU: s.knotsOf(u, n), KnotsV: s.knotsOf(v, m)}
	for range len(x.KnotsU) - u - 1 {
		x.Poles = append(x.Poles, s.row(len(x.KnotsV)-v-1, next))
	}
	return operand{surface: x}
}

// numbersOf returns pointers to all numbers of an operand.
func (o *operand) numbersOf() []*api.Rat {
	var out []*api.Rat
	for _, l := range [3][]api.Rat{o.curve.Knots, o.surface.KnotsU, o.surface.KnotsV} {
		for i := range l {
			out = append(out, &l[i])
		}
	}
	for _, row := range append(slices.Clone(o.surface.Poles), o.curve.Poles) {
		for j := range row {
			p := &row[j]
			out = append(out, &p.P[0], &p.P[1], &p.P[2], &p.W)
		}
	}
	return out
}

// copied returns an operand with memory of its own.
func (o operand) copied() operand {
	o.curve.Knots, o.curve.Poles = slices.Clone(o.curve.Knots), slices.Clone(o.curve.Poles)
	o.surface.KnotsU, o.surface.KnotsV = slices.Clone(o.surface.KnotsU), slices.Clone(o.surface.KnotsV)
	o.surface.Poles = each(o.surface.Poles, slices.Clone)
	for _, r := range o.numbersOf() {
		r.Num, r.Den = slices.Clone(r.Num), slices.Clone(r.Den)
	}
	return o
}

// curveText reads a curve. There are semicolons between its poles.
func curveText(degree int, knots, poles string) operand {
	return operand{curve: api.Curve{Degree: degree, Knots: list(knots), Poles: polesText(poles)}}
}

func polesText(text string) []api.Pole {
	return each(strings.Split(text, ";"), func(word string) api.Pole {
		l := list(word)
		return api.Pole{P: api.Point(l[:3]), W: l[3]}
	})
}

// surfaceText reads a surface. There are strokes between its rows.
func surfaceText(u, v int, knotsU, knotsV, rows string) operand {
	return operand{surface: api.Surface{U: u, V: v, KnotsU: list(knotsU), KnotsV: list(knotsV), Poles: each(strings.Split(rows, "|"), polesText)}}
}

// segment is the one of the chapter's examples.
func segment() operand { return curveText(1, "0 0 1 1", "0 0 0 1; 2 0 0 1") }

// corner is two segments with a right angle.
func corner() operand { return curveText(1, "0 0 1 2 2", "-1 1 0 1; 0 0 0 1; 1 1 0 1") }

// quarter is one of the unit circle.
func quarter() operand { return curveText(2, "0 0 0 1 1 1", "1 0 0 1; 1 1 0 1; 0 1 0 2") }

// wave has an inner knot, and knots that do not begin at 0.
func wave() operand {
	return curveText(2, "-1 -1 -1 1/2 3 3 3", "0 0 0 1; 1 2 0 1; 3 -1 1 2; 4 0 1/2 1/3")
}

// square is one of 4 by 4 in the plane z = 0.
func square() operand {
	return surfaceText(1, 1, "0 0 1 1", "0 0 1 1", "0 0 0 1; 0 4 0 1 | 4 0 0 1; 4 4 0 1")
}

// octant is an eighth of the unit sphere, with one side at its pole.
func octant() operand {
	return surfaceText(2, 2, "0 0 0 1 1 1", "0 0 0 1 1 1", "1 0 0 1; 1 0 1 1; 0 0 1 2 | 1 1 0 1; 1 1 1 1; 0 0 1 2 | 0 1 0 2; 0 1 1 2; 0 0 1 4")
}

// hill has inner knots in both directions.
func hill() operand {
	return surfaceText(2, 1, "0 0 0 1 3 3 3", "0 0 1 2 2", "0 0 0 1; 0 1 0 2; 0 3 1 1 | 1 0 1 1; 1 1 4 1/3; 1 3 1 2 | 2 0 1 3; 2 1 -5 1; 2 3 1 1 | 4 0 0 1; 4 1 0 1; 4 3 1/2 5")
}

// curves returns some of all degrees, with and without inner knots.
func curves() []operand {
	s := source(1)
	out := []operand{segment(), corner(), quarter(), wave()}
	for degree := 1; degree <= api.MaxDegree; degree++ {
		for n, next := range []func() *big.Rat{s.number, s.simple, s.number} {
			out = append(out, s.curveOf(degree, n, next))
		}
	}
	return out
}

// surfaces returns some of all degrees.
func surfaces() []operand {
	s := source(2)
	out := []operand{square(), octant(), hill()}
	for u := 1; u <= api.MaxDegree; u++ {
		for v := 1; v <= api.MaxDegree; v++ {
			if u+v < 6 {
				out = append(out, s.surfaceOf(u, v, s.below(3), s.below(3), s.number))
			}
			if u+v == 7 || u == v {
				out = append(out, s.surfaceOf(u, v, 0, 0, s.simple))
			}
		}
	}
	return out
}
