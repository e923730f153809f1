package curve_test

import (
	"math/big"
	"slices"
	"strconv"
	"strings"
	"testing"

	"brepkernel/api"
	"brepkernel/rational"
)

// model is a curve with its poles in homogeneous coordinates: W x, W y, W z, W.
type model struct {
	degree int
	k      []*big.Rat
	poles  [][4]*big.Rat
}

// modelOf returns the model of a curve.
func modelOf(c api.Curve) model {
	m := model{degree: c.Degree, k: values(c.Knots)}
	for _, p := range c.Poles {
		w := value(p.W)
		m.poles = append(m.poles, [4]*big.Rat{times(w, value(p.P[0])), times(w, value(p.P[1])), times(w, value(p.P[2])), w})
	}
	return m
}

// intervals returns the indices of the intervals between different knots.
func (m model) intervals() []int {
	var out []int
	for i := range len(m.k) - 1 {
		if m.k[i].Cmp(m.k[i+1]) < 0 {
			out = append(out, i)
		}
	}
	return out
}

// interval returns the index of the interval in which a parameter lies: for the last
// knot it is the last one.
func (m model) interval(t *big.Rat) int {
	index := -1
	for _, i := range m.intervals() {
		if m.k[i].Cmp(t) <= 0 {
			index = i
		}
	}
	return index
}

// functions returns the values of all basis functions by their recursion, where those
// of the degree 0 are 1 on the interval and 0 elsewhere. For a parameter that does not
// lie in the interval, they are those of the polynomials on it.
func (m model) functions(interval int, t *big.Rat) []*big.Rat {
	k, zero := m.k, new(big.Rat)
	values := repeat(zero, len(k)-1)
	values[interval] = big.NewRat(1, 1)
	for d := 1; d <= m.degree; d++ {
		next := repeat(zero, len(k)-d-1)
		for i := max(0, interval-d); i <= min(interval, len(next)-1); i++ { // the others are 0
			rise := times(quotient(minus(t, k[i]), minus(k[i+d], k[i])), values[i])
			fall := times(quotient(minus(k[i+d+1], t), minus(k[i+d+1], k[i+1])), values[i+1])
			next[i] = plus(rise, fall)
		}
		values = next
	}
	return values
}

// at returns the values of the four polynomials that the homogeneous functions are on
// an interval.
func (m model) at(interval int, t *big.Rat) [4]*big.Rat {
	out := [4]*big.Rat{new(big.Rat), new(big.Rat), new(big.Rat), new(big.Rat)}
	for j, value := range m.functions(interval, t) {
		if value.Sign() == 0 {
			continue
		}
		for i := range out {
			out[i].Add(out[i], times(value, m.poles[j][i]))
		}
	}
	return out
}

// point returns the point at a parameter.
func (m model) point(t *big.Rat) api.Point {
	q := m.at(m.interval(t), t)
	return api.Point{rat(quotient(q[0], q[3])), rat(quotient(q[1], q[3])), rat(quotient(q[2], q[3]))}
}

// first and last return the ends of the domain.
func (m model) first() *big.Rat { return m.k[0] }
func (m model) last() *big.Rat  { return m.k[len(m.k)-1] }

// inner returns the different knots between the first and the last one.
func (m model) inner() []*big.Rat {
	all := distinct(m.k)
	return all[1 : len(all)-1]
}

// parameters returns the different knots, and two numbers between each two of them.
func (m model) parameters() []*big.Rat {
	all := distinct(m.k)
	out := slices.Clone(all)
	for i := range len(all) - 1 {
		for _, share := range exact("1/2 1/1000003") {
			out = append(out, between(all[i], all[i+1], share))
		}
	}
	return out
}

// outside returns parameters before the first and behind the last knot.
func (m model) outside() []*big.Rat {
	var out []*big.Rat
	for _, x := range exact("1 1/1000000007 1e-300 1e300") {
		out = append(out, minus(m.first(), x), plus(m.last(), x))
	}
	return out
}

// knots returns a list that is valid for the degree, with these different numbers. Up
// to most times each inner one occurs.
func (s *source) knots(degree, most int, all []*big.Rat) []*big.Rat {
	var out []*big.Rat
	for i, x := range all {
		n := 1 + s.below(most)
		if i == 0 || i == len(all)-1 {
			n = degree + 1
		}
		out = append(out, repeat(x, n)...)
	}
	return out
}

// withKnots returns a curve with these knots. A third of the curves have equal
// weights.
func (s *source) withKnots(degree int, k []*big.Rat, next func() *big.Rat) api.Curve {
	c := api.Curve{Degree: degree, Knots: rats(k)}
	equalWeights := s.below(3) == 0
	for range len(k) - degree - 1 {
		w := big.NewRat(1, 1)
		if x := next(); !equalWeights && x.Sign() != 0 {
			w = x.Abs(x)
		}
		c.Poles = append(c.Poles, api.Pole{P: api.Point{rat(next()), rat(next()), rat(next())}, W: rat(w)})
	}
	return c
}

// evenly returns the numbers from 0 to n - 1, divided by 7.
func evenly(n int) []*big.Rat {
	var out []*big.Rat
	for i := range n {
		out = append(out, big.NewRat(int64(i), 7))
	}
	return out
}

// curves returns some of each degree: with the fewest knots, with some, with inner
// knots that occur as often as they may, and with the most poles.
func curves() []api.Curve {
	s := source(1)
	var out []api.Curve
	for degree := 1; degree <= api.MaxDegree; degree++ {
		for _, inner := range []int{0, 0, 1, 2, 3} {
			k := s.knots(degree, degree, ascending(inner+2, s.number))
			out = append(out, s.withKnots(degree, k, s.number))
		}
		all := ascending(4, s.number)
		k := slices.Concat(repeat(all[0], degree+1), repeat(all[1], degree), repeat(all[2], degree), repeat(all[3], degree+1))
		out = append(out, s.withKnots(degree, k, s.number))
	}
	return append(out, fullCurves()...)
}

// fullCurves returns curves with the most poles: one of each degree with single inner
// knots, and one with an inner knot that occurs as often as it may.
func fullCurves() []api.Curve {
	s := source(2)
	var out []api.Curve
	for degree := 1; degree <= api.MaxDegree; degree++ {
		for _, n := range []int{1, degree} {
			all := evenly(api.MaxPoles - degree + 2 - n)
			k := slices.Concat(repeat(all[0], degree), all[:2], repeat(all[2], n), all[3:], repeat(all[len(all)-1], degree))
			out = append(out, s.withKnots(degree, k, s.simple))
		}
	}
	return out
}

// curveOf reads a curve. There are semicolons between its poles.
func curveOf(degree int, k, poles string) api.Curve {
	c := api.Curve{Degree: degree, Knots: list(k)}
	for _, text := range strings.Split(poles, ";") {
		l := list(text)
		c.Poles = append(c.Poles, api.Pole{P: api.Point{l[0], l[1], l[2]}, W: l[3]})
	}
	return c
}

// quarter is the quarter of a circle of the chapter's examples.
func quarter() api.Curve {
	return curveOf(2, "0 0 0 1 1 1", "1 0 0 1; 1 1 0 1; 0 1 0 2")
}

// wave has an inner knot.
func wave() api.Curve {
	return curveOf(2, "0 0 0 1 3 3 3", "0 0 0 1; 1 2 0 1; 3 -1 1 2; 4 0 1/2 1/3")
}

// showCurve returns a curve as a text that curveOf reads.
func showCurve(c api.Curve) string {
	var poles []string
	for _, p := range c.Poles {
		poles = append(poles, show(p.P[0], p.P[1], p.P[2], p.W))
	}
	return strconv.Itoa(c.Degree) + ": " + show(c.Knots...) + ": " + strings.Join(poles, "; ")
}

func showPoint(p api.Point) string { return show(p[:]...) }

// expectKnots compares degree and knots, and looks whether all numbers are valid and
// the number of poles and the weights are right.
func expectKnots(t *testing.T, what string, got api.Curve, degree int, k []*big.Rat) {
	t.Helper()
	if got.Degree != degree || len(got.Poles) != len(k)-degree-1 {
		t.Fatalf("%s: degree %d, %d poles", what, got.Degree, len(got.Poles))
	}
	expectText(t, what+": knots", show(got.Knots...), show(rats(k)...))
	numbers := slices.Clone(got.Knots)
	for _, p := range got.Poles {
		numbers = append(numbers, p.P[0], p.P[1], p.P[2], p.W)
		if rational.Sign(p.W) <= 0 {
			t.Fatalf("%s: weight %s", what, show(p.W))
		}
	}
	for _, r := range numbers {
		if !rational.Valid(r) {
			t.Fatalf("%s: %v", what, r)
		}
	}
}

// expectSame looks whether a curve has the homogeneous functions of a model, times a
// number, at parameters that differ by shift from those of the model. Polynomials are
// equal if they have more equal values than their degree.
func expectSame(t *testing.T, what string, got api.Curve, want model, scale, shift *big.Rat) {
	t.Helper()
	m := modelOf(got)
	for _, i := range m.intervals() {
		middle := between(m.k[i], m.k[i+1], big.NewRat(1, 2))
		other := want.interval(minus(middle, shift))
		for n := range max(m.degree, want.degree) + 1 {
			x := between(m.k[i], m.k[i+1], big.NewRat(int64(n), int64(m.degree+1)))
			left, right := m.at(i, x), want.at(other, minus(x, shift))
			for j := range left {
				if !equal(left[j], times(scale, right[j])) {
					t.Fatalf("%s: homogeneous function %d at %s is %s; expected %s", what, j, x.RatString(), left[j].RatString(), times(scale, right[j]).RatString())
				}
			}
		}
	}
}

// expectCurve looks whether a curve has these knots and the homogeneous functions of
// another one.
func expectCurve(t *testing.T, what string, got api.Curve, degree int, k []*big.Rat, want api.Curve) {
	t.Helper()
	expectKnots(t, what, got, degree, k)
	expectSame(t, what, got, modelOf(want), big.NewRat(1, 1), new(big.Rat))
}

// expectNothing looks whether a curve that is returned with an error is zero.
func expectNothing(t *testing.T, what string, got api.Curve) {
	t.Helper()
	if got.Degree != 0 || len(got.Knots) > 0 || len(got.Poles) > 0 {
		t.Fatalf("%s: %s", what, showCurve(got))
	}
}
