package surface_test

import (
	"math/big"
	"slices"
	"strconv"
	"strings"
	"testing"

	"brepkernel/api"
	"brepkernel/rational"
)

// side is one direction of a surface: its degree and its knots.
type side struct {
	degree int
	k      []*big.Rat
}

// first and last return the ends of the domain.
func (d side) first() *big.Rat { return d.k[0] }
func (d side) last() *big.Rat  { return d.k[len(d.k)-1] }

// poles returns the number of poles.
func (d side) poles() int { return len(d.k) - d.degree - 1 }

// intervals returns the indices of the intervals between different knots.
func (d side) intervals() []int {
	var out []int
	for i := range len(d.k) - 1 {
		if d.k[i].Cmp(d.k[i+1]) < 0 {
			out = append(out, i)
		}
	}
	return out
}

// interval returns the index of the interval in which a parameter lies: for the last
// knot it is the last one.
func (d side) interval(t *big.Rat) int {
	index := -1
	for _, i := range d.intervals() {
		if d.k[i].Cmp(t) <= 0 {
			index = i
		}
	}
	return index
}

// functions returns the values of all basis functions by their recursion, where those
// of the degree 0 are 1 on the interval and 0 elsewhere. For a parameter that does not
// lie in the interval, they are those of the polynomials on it.
func (d side) functions(interval int, t *big.Rat) []*big.Rat {
	k, zero := d.k, new(big.Rat)
	values := repeat(zero, len(k)-1)
	values[interval] = big.NewRat(1, 1)
	for n := 1; n <= d.degree; n++ {
		next := repeat(zero, len(k)-n-1)
		for i := max(0, interval-n); i <= min(interval, len(next)-1); i++ { // the others are 0
			rise := times(quotient(minus(t, k[i]), minus(k[i+n], k[i])), values[i])
			fall := times(quotient(minus(k[i+n+1], t), minus(k[i+n+1], k[i+1])), values[i+1])
			next[i] = plus(rise, fall)
		}
		values = next
	}
	return values
}

// distinct returns the different knots.
func (d side) distinct() []*big.Rat { return distinct(d.k) }

// inner returns the different knots between the first and the last one.
func (d side) inner() []*big.Rat {
	all := d.distinct()
	return all[1 : len(all)-1]
}

// parameters returns the different knots, and two numbers between each two of them.
func (d side) parameters() []*big.Rat {
	all := d.distinct()
	out := slices.Clone(all)
	for i := range len(all) - 1 {
		for _, share := range exact("1/2 1/1000003") {
			out = append(out, between(all[i], all[i+1], share))
		}
	}
	return out
}

// outside returns parameters before the first and behind the last knot.
func (d side) outside() []*big.Rat {
	var out []*big.Rat
	for _, x := range exact("1 1/1000000007 1e300") {
		out = append(out, minus(d.first(), x), plus(d.last(), x))
	}
	return out
}

// with returns the side with more knots.
func (d side) with(more ...*big.Rat) side {
	k := slices.Concat(d.k, more)
	slices.SortStableFunc(k, (*big.Rat).Cmp)
	return side{d.degree, k}
}

// elevated returns the side with a degree greater by 1 and each knot once more.
func (d side) elevated() side {
	return side{d.degree + 1, d.with(d.distinct()...).k}
}

// part returns the side from a to b.
func (d side) part(a, b *big.Rat) side {
	k := repeat(a, d.degree+1)
	for _, x := range d.k {
		if x.Cmp(a) > 0 && x.Cmp(b) < 0 {
			k = append(k, x)
		}
	}
	return side{d.degree, append(k, repeat(b, d.degree+1)...)}
}

// point4 is a pole or a point in homogeneous coordinates: W x, W y, W z, W.
type point4 [4]*big.Rat

// pole returns the pole with these coordinates.
func (q point4) pole() api.Pole {
	return api.Pole{P: api.Point{rat(quotient(q[0], q[3])), rat(quotient(q[1], q[3])), rat(quotient(q[2], q[3]))}, W: rat(q[3])}
}

// combined returns the sum of poles times numbers.
func combined(factors []*big.Rat, poles func(i int) point4) point4 {
	out := point4{new(big.Rat), new(big.Rat), new(big.Rat), new(big.Rat)}
	for i, f := range factors {
		if f.Sign() == 0 {
			continue
		}
		q := poles(i)
		for n := range out {
			out[n].Add(out[n], times(f, q[n]))
		}
	}
	return out
}

// model is a surface with its poles in homogeneous coordinates.
type model struct {
	u, v  side
	poles [][]point4
}

// modelOf returns the model of a surface.
func modelOf(s api.Surface) model {
	m := model{u: side{s.U, values(s.KnotsU)}, v: side{s.V, values(s.KnotsV)}}
	for _, row := range s.Poles {
		var out []point4
		for _, p := range row {
			w := value(p.W)
			out = append(out, point4{times(w, value(p.P[0])), times(w, value(p.P[1])), times(w, value(p.P[2])), w})
		}
		m.poles = append(m.poles, out)
	}
	return m
}

// turned returns the model with its directions exchanged.
func (m model) turned() model {
	out := model{u: m.v, v: m.u}
	for j := range m.poles[0] {
		var column []point4
		for _, row := range m.poles {
			column = append(column, row[j])
		}
		out.poles = append(out.poles, column)
	}
	return out
}

// along returns the poles of the curve with this u, or of the one that the polynomials
// of an interval make of it.
func (m model) along(interval int, u *big.Rat) []point4 {
	factors := m.u.functions(interval, u)
	var out []point4
	for j := range m.v.poles() {
		out = append(out, combined(factors, func(i int) point4 { return m.poles[i][j] }))
	}
	return out
}

// point returns the point at (u, v).
func (m model) point(u, v *big.Rat) api.Point {
	row := m.along(m.u.interval(u), u)
	return combined(m.v.functions(m.v.interval(v), v), func(j int) point4 { return row[j] }).pole().P
}

// samples returns for each interval of a side as many parameters as determine a
// polynomial of a degree, with the interval and the one of another side in which it
// lies.
func samples(d, other side, degree int) []sample {
	var out []sample
	for _, i := range d.intervals() {
		in := other.interval(between(d.k[i], d.k[i+1], big.NewRat(1, 2)))
		for n := range degree + 1 {
			out = append(out, sample{i, in, between(d.k[i], d.k[i+1], big.NewRat(int64(n), int64(degree+1)))})
		}
	}
	return out
}

type sample struct {
	here, there int
	t           *big.Rat
}

// expectFunctions looks whether a surface has the homogeneous functions of a model on
// its domain. Polynomials are equal if they have more equal values than their degree.
func expectFunctions(t *testing.T, what string, got api.Surface, want model) {
	t.Helper()
	m := modelOf(got)
	allV := samples(m.v, want.v, max(m.v.degree, want.v.degree))
	var left, right [][]*big.Rat
	for _, v := range allV {
		left, right = append(left, m.v.functions(v.here, v.t)), append(right, want.v.functions(v.there, v.t))
	}
	for _, u := range samples(m.u, want.u, max(m.u.degree, want.u.degree)) {
		row, wanted := m.along(u.here, u.t), want.along(u.there, u.t)
		for n, v := range allV {
			a := combined(left[n], func(j int) point4 { return row[j] })
			b := combined(right[n], func(j int) point4 { return wanted[j] })
			for i := range a {
				if !equal(a[i], b[i]) {
					t.Fatalf("%s: homogeneous function %d at (%s, %s) is %s; expected %s", what, i, u.t.RatString(), v.t.RatString(), a[i].RatString(), b[i].RatString())
				}
			}
		}
	}
}

// expectSides compares degrees and knots, and looks whether all numbers are valid and
// the numbers of poles and the weights are right.
func expectSides(t *testing.T, what string, got api.Surface, u, v side) {
	t.Helper()
	if got.U != u.degree || got.V != v.degree || len(got.Poles) != u.poles() {
		t.Fatalf("%s: degrees %d and %d, %d rows", what, got.U, got.V, len(got.Poles))
	}
	expectText(t, what+": knots of u", show(got.KnotsU...), show(rats(u.k)...))
	expectText(t, what+": knots of v", show(got.KnotsV...), show(rats(v.k)...))
	for _, row := range got.Poles {
		if len(row) != v.poles() {
			t.Fatalf("%s: a row of %d poles", what, len(row))
		}
		for _, p := range row {
			if rational.Sign(p.W) <= 0 {
				t.Fatalf("%s: weight %s", what, show(p.W))
			}
		}
	}
	for _, r := range numbersOf(got) {
		if !rational.Valid(*r) {
			t.Fatalf("%s: %v", what, *r)
		}
	}
}

// expectSurface looks whether a surface has these sides and the homogeneous functions
// of another one.
func expectSurface(t *testing.T, what string, got api.Surface, u, v side, want api.Surface) {
	t.Helper()
	expectSides(t, what, got, u, v)
	expectFunctions(t, what, got, modelOf(want))
}

// expectNothing looks whether a surface that is returned with an error is zero.
func expectNothing(t *testing.T, what string, got api.Surface) {
	t.Helper()
	if got.U != 0 || got.V != 0 || len(got.KnotsU) > 0 || len(got.KnotsV) > 0 || len(got.Poles) > 0 {
		t.Fatalf("%s: %s", what, showSurface(got))
	}
}

// numbersOf returns pointers to all numbers of a surface.
func numbersOf(s api.Surface) []*api.Rat {
	var out []*api.Rat
	for _, k := range [2][]api.Rat{s.KnotsU, s.KnotsV} {
		for i := range k {
			out = append(out, &k[i])
		}
	}
	for _, row := range s.Poles {
		for j := range row {
			p := &row[j]
			out = append(out, &p.P[0], &p.P[1], &p.P[2], &p.W)
		}
	}
	return out
}

// copyOf returns a surface with memory of its own.
func copyOf(s api.Surface) api.Surface {
	s.KnotsU, s.KnotsV, s.Poles = slices.Clone(s.KnotsU), slices.Clone(s.KnotsV), slices.Clone(s.Poles)
	for i, row := range s.Poles {
		s.Poles[i] = slices.Clone(row)
	}
	for _, r := range numbersOf(s) {
		r.Num, r.Den = slices.Clone(r.Num), slices.Clone(r.Den)
	}
	return s
}

// rowsOf and columnsOf return the curves of the poles in one direction.
func rowsOf(s api.Surface) []api.Curve {
	var out []api.Curve
	for _, row := range s.Poles {
		out = append(out, api.Curve{Degree: s.V, Knots: s.KnotsV, Poles: row})
	}
	return out
}

func columnsOf(s api.Surface) []api.Curve {
	var out []api.Curve
	for j := range s.Poles[0] {
		c := api.Curve{Degree: s.U, Knots: s.KnotsU}
		for _, row := range s.Poles {
			c.Poles = append(c.Poles, row[j])
		}
		out = append(out, c)
	}
	return out
}

// side returns knots that are valid for a degree, with these different numbers. Up to
// most times each inner one occurs.
func (s *source) side(degree, most int, all []*big.Rat) side {
	var k []*big.Rat
	for i, x := range all {
		n := 1 + s.below(most)
		if i == 0 || i == len(all)-1 {
			n = degree + 1
		}
		k = append(k, repeat(x, n)...)
	}
	return side{degree, k}
}

// surface returns a surface with these sides. A third of them have equal weights.
func (s *source) surface(u, v side, next func() *big.Rat) api.Surface {
	out := api.Surface{U: u.degree, V: v.degree, KnotsU: rats(u.k), KnotsV: rats(v.k)}
	equalWeights := s.below(3) == 0
	for range u.poles() {
		var row []api.Pole
		for range v.poles() {
			w := big.NewRat(1, 1)
			if x := next(); !equalWeights && x.Sign() != 0 {
				w = x.Abs(x)
			}
			row = append(row, api.Pole{P: api.Point{rat(next()), rat(next()), rat(next())}, W: rat(w)})
		}
		out.Poles = append(out.Poles, row)
	}
	return out
}

// evenly returns the numbers from 0 to n - 1, divided by 7.
func evenly(n int) []*big.Rat {
	var out []*big.Rat
	for i := range n {
		out = append(out, big.NewRat(int64(i), 7))
	}
	return out
}

// sideOf returns one with single inner knots, evenly spaced, with this number of poles.
func sideOf(degree, poles int) side {
	all := evenly(poles - degree + 1)
	return side{degree, slices.Concat(repeat(all[0], degree), all, repeat(all[len(all)-1], degree))}
}

// surfaces returns some of each degree in each direction, with and without inner knots,
// and some with inner knots that occur as often as they may.
func surfaces() []api.Surface {
	s := source(1)
	var out []api.Surface
	for u := 1; u <= api.MaxDegree; u++ {
		for _, step := range []int{0, 1, 3} {
			v := 1 + (u+step)%api.MaxDegree
			a := s.side(u, min(u, 2), ascending(2+s.below(3), s.number))
			b := s.side(v, 1, ascending(2+s.below(2), s.number))
			out = append(out, s.surface(a, b, s.number))
		}
		full := s.side(u, 1, ascending(2, s.number))
		full = full.with(repeat(between(full.first(), full.last(), big.NewRat(2, 5)), u)...)
		low := s.side(1+u%3, 1, ascending(3, s.number))
		out = append(out, s.surface(full, low, s.simple), s.surface(low, full, s.simple))
	}
	return append(out, hill(), saddle())
}

// fullSurfaces returns surfaces with the most poles in one direction, of each degree:
// with single inner knots, and with one that occurs as often as it may.
func fullSurfaces() []api.Surface {
	s := source(2)
	var out []api.Surface
	low := side{1, exact("0 0 1 1")}
	for degree := 1; degree <= api.MaxDegree; degree++ {
		for _, n := range []int{1, degree} {
			d := sideOf(degree, api.MaxPoles+1-n)
			d = d.with(repeat(d.k[degree+2], n-1)...)
			out = append(out, s.surface(d, low, s.simple), s.surface(low, d, s.simple))
		}
	}
	return out
}

// surfaceOf reads a surface. There are semicolons between the poles of a row, and
// strokes between rows.
func surfaceOf(u, v int, knotsU, knotsV, poles string) api.Surface {
	s := api.Surface{U: u, V: v, KnotsU: list(knotsU), KnotsV: list(knotsV)}
	for _, text := range strings.Split(poles, "|") {
		s.Poles = append(s.Poles, polesOf(text))
	}
	return s
}

func polesOf(text string) []api.Pole {
	var out []api.Pole
	for _, word := range strings.Split(text, ";") {
		l := list(word)
		out = append(out, api.Pole{P: api.Point{l[0], l[1], l[2]}, W: l[3]})
	}
	return out
}

// saddle is the bilinear surface of the chapter's examples.
func saddle() api.Surface {
	return surfaceOf(1, 1, "0 0 1 1", "0 0 1 1", "0 0 0 1; 0 1 0 1 | 1 0 0 1; 1 1 1 1")
}

// hill has inner knots in both directions.
func hill() api.Surface {
	return surfaceOf(2, 1, "0 0 0 1 3 3 3", "0 0 1 2 2",
		"0 0 0 1; 0 1 0 2; 0 3 1 1 | 1 0 1 1; 1 1 4 1/3; 1 3 1 2 | 2 0 1 3; 2 1 -5 1; 2 3 1 1 | 4 0 0 1; 4 1 0 1; 4 3 1/2 5")
}

// showSurface returns a surface as a text.
func showSurface(s api.Surface) string {
	var rows []string
	for _, row := range s.Poles {
		rows = append(rows, showPoles(row))
	}
	return strconv.Itoa(s.U) + " " + strconv.Itoa(s.V) + ": " + show(s.KnotsU...) + ": " + show(s.KnotsV...) + ": " + strings.Join(rows, " | ")
}

func showPoles(list []api.Pole) string {
	var words []string
	for _, p := range list {
		words = append(words, show(p.P[0], p.P[1], p.P[2], p.W))
	}
	return strings.Join(words, "; ")
}

func showCurve(c api.Curve) string {
	return strconv.Itoa(c.Degree) + ": " + show(c.Knots...) + ": " + showPoles(c.Poles)
}

func showPoint(p api.Point) string { return show(p[:]...) }
