package curve_test

import (
	"math/big"
	"slices"
	"testing"

	"brepkernel/api"
	"brepkernel/curve"
)

// P10.3

func TestInsertOfExamples(t *testing.T) {
	corners := curveOf(1, "0 0 1 3 3", "0 0 0 1; 1 1 0 2; 1 5 0 2")
	for _, c := range []struct {
		c    api.Curve
		at   string
		want string
	}{
		{quarter(), "1/2", "2: 0 0 0 1/2 1 1 1: 1 0 0 1; 1 1/2 0 1; 1/3 1 0 3/2; 0 1 0 2"},
		{quarter(), "1/3", "2: 0 0 0 1/3 1 1 1: 1 0 0 1; 1 1/3 0 1; 1/2 1 0 4/3; 0 1 0 2"},
		{corners, "2", "1: 0 0 1 2 3 3: 0 0 0 1; 1 1 0 2; 1 3 0 2; 1 5 0 2"},
		{corners, "1/2", "1: 0 0 1/2 1 3 3: 0 0 0 1; 2/3 2/3 0 3/2; 1 1 0 2; 1 5 0 2"},
		{curveOf(2, "0 0 0 1 3 3 3", "0 0 0 1; 1 2 0 1; 3 -1 1 1; 4 0 1/2 1"), "1", "2: 0 0 0 1 1 3 3 3: 0 0 0 1; 1 2 0 1; 5/3 1 1/3 1; 3 -1 1 1; 4 0 1/2 1"},
	} {
		got, e := curve.Insert(c.c, num(c.at))
		expectText(t, "Insert at "+c.at, showCurve(got), c.want)
		expectError(t, "Insert at "+c.at, e, api.OK)
	}
}

// inserted returns what P10.3 says: the knots with t, or the error.
func inserted(m model, t *big.Rat) ([]*big.Rat, api.Errno) {
	switch {
	case t.Cmp(m.first()) <= 0 || t.Cmp(m.last()) >= 0:
		return nil, api.ErrRange
	case count(m.k, t) >= m.degree:
		return nil, api.ErrKnots
	case len(m.poles) >= api.MaxPoles:
		return nil, api.ErrSize
	}
	return sorted(m.k, t), api.OK
}

// sorted returns knots with more knots, in order.
func sorted(k []*big.Rat, more ...*big.Rat) []*big.Rat {
	out := slices.Concat(k, more)
	slices.SortStableFunc(out, (*big.Rat).Cmp)
	return out
}

func TestInsert(t *testing.T) {
	found := map[api.Errno]int{}
	for _, c := range curves() {
		m := modelOf(c)
		for _, x := range slices.Concat(m.parameters(), m.outside()) {
			got, e := curve.Insert(c, rat(x))
			k, want := inserted(m, x)
			found[want]++
			what := "Insert at " + x.RatString() + " into " + showCurve(c)
			expectError(t, what, e, want)
			if e != api.OK {
				expectNothing(t, what, got)
				continue
			}
			expectCurve(t, what, got, m.degree, k, c)
		}
	}
	for _, e := range []api.Errno{api.OK, api.ErrRange, api.ErrKnots, api.ErrSize} {
		if found[e] < 10 {
			t.Errorf("these curves find the error %d %d times", e, found[e])
		}
	}
}

// The first error decides: of a knot at an end that occurs often enough, and of a
// curve with the most poles.
func TestInsertOrder(t *testing.T) {
	for _, c := range fullCurves() {
		m := modelOf(c)
		for _, x := range append(m.outside(), m.first(), m.last()) {
			_, e := curve.Insert(c, rat(x))
			expectError(t, "Insert at "+x.RatString(), e, api.ErrRange)
		}
		for _, x := range m.inner() {
			want := api.ErrSize
			if count(m.k, x) == m.degree {
				want = api.ErrKnots
			}
			_, e := curve.Insert(c, rat(x))
			expectError(t, "Insert at "+x.RatString(), e, want)
		}
	}
}

func TestRefine(t *testing.T) {
	s := source(4)
	found := map[api.Errno]int{}
	for _, c := range slices.Concat(curves(), curves(), []api.Curve{wave()}) {
		m := modelOf(c)
		all := m.parameters()
		for n := range 5 {
			var l []*big.Rat
			for range n {
				l = append(l, all[s.below(len(all))])
			}
			if s.below(3) > 0 {
				l = slices.DeleteFunc(l, func(x *big.Rat) bool { return count([]*big.Rat{m.first(), m.last()}, x) > 0 })
			}
			want := refined(c, l)
			found[want]++
			got, e := curve.Refine(c, rats(l))
			what := "Refine with (" + show(rats(l)...) + ") of " + showCurve(c)
			expectError(t, what, e, want)
			if e != api.OK {
				expectNothing(t, what, got)
				continue
			}
			expectCurve(t, what, got, m.degree, sorted(m.k, l...), c)
		}
	}
	for _, e := range []api.Errno{api.OK, api.ErrRange, api.ErrKnots, api.ErrSize} {
		if found[e] < 5 {
			t.Errorf("these lists find the error %d %d times", e, found[e])
		}
	}
}

// refined returns the first error of knots that are inserted one after the other.
func refined(c api.Curve, l []*big.Rat) api.Errno {
	m := modelOf(c)
	for _, x := range l {
		k, e := inserted(m, x)
		if e != api.OK {
			return e
		}
		m.k, m.poles = k, append(m.poles, [4]*big.Rat{})
	}
	return api.OK
}

func TestRefineOrder(t *testing.T) {
	for _, c := range []struct {
		l    string
		want api.Errno
	}{
		{"", api.OK}, {"1", api.OK}, {"1 1", api.ErrKnots}, {"2 2", api.OK}, {"2 2 2", api.ErrKnots}, {"2 1 2 1", api.ErrKnots}, {"1 1 9", api.ErrKnots}, {"9 1 1", api.ErrRange},
		{"1 9 1", api.ErrRange}, {"1 0 1", api.ErrRange}, {"2 2 3 2", api.ErrRange}, {"2 2 2 3", api.ErrKnots}, {"5/2 1/2 2 1 1/2 2", api.OK},
	} {
		got, e := curve.Refine(wave(), list(c.l))
		expectError(t, "Refine with ("+c.l+")", e, c.want)
		if e != api.OK {
			expectNothing(t, "Refine with ("+c.l+")", got)
		}
	}
	got, _ := curve.Refine(wave(), nil)
	expectText(t, "Refine with nothing", showCurve(got), showCurve(wave()))
}

// There may be as many poles as api.MaxPoles says, and not more.
func TestRefineToMostPoles(t *testing.T) {
	for degree := 1; degree <= api.MaxDegree; degree++ {
		s := source(degree)
		c := s.withKnots(degree, slices.Concat(repeat(big.NewRat(0, 1), degree+1), repeat(big.NewRat(9, 1), degree+1)), s.simple)
		l := evenly(api.MaxPoles - degree)[1:]
		got, e := curve.Refine(c, rats(l))
		expectError(t, "Refine to the most poles", e, api.OK)
		expectCurve(t, "Refine to the most poles", got, degree, sorted(modelOf(c).k, l...), c)
		for _, more := range []struct {
			l    string
			want api.Errno
		}{{"25/3", api.ErrSize}, {"25/3 9", api.ErrSize}, {"9 25/3", api.ErrRange}, {"25/3 25/3 25/3 25/3 25/3 25/3 25/3", api.ErrSize}} {
			got, e := curve.Refine(c, append(rats(l), list(more.l)...))
			expectError(t, "Refine to more than the most poles", e, more.want)
			expectNothing(t, "Refine to more than the most poles", got)
		}
	}
}

// P10.4

func TestSplitOfExamples(t *testing.T) {
	for _, c := range []struct {
		c            api.Curve
		at           string
		lower, upper string
	}{
		{quarter(), "1/2", "2: 0 0 0 1/2 1/2 1/2: 1 0 0 1; 1 1/2 0 1; 3/5 4/5 0 5/4", "2: 1/2 1/2 1/2 1 1 1: 3/5 4/5 0 5/4; 1/3 1 0 3/2; 0 1 0 2"},
		{curveOf(1, "0 0 1 3 3", "0 0 0 1; 1 1 0 2; 1 5 0 2"), "1", "1: 0 0 1 1: 0 0 0 1; 1 1 0 2", "1: 1 1 3 3: 1 1 0 2; 1 5 0 2"},
		{curveOf(1, "0 0 1 3 3", "0 0 0 1; 1 1 0 2; 1 5 0 2"), "2", "1: 0 0 1 2 2: 0 0 0 1; 1 1 0 2; 1 3 0 2", "1: 2 2 3 3: 1 3 0 2; 1 5 0 2"},
	} {
		lower, upper, e := curve.Split(c.c, num(c.at))
		expectText(t, "the lower part", showCurve(lower), c.lower)
		expectText(t, "the upper part", showCurve(upper), c.upper)
		expectError(t, "Split at "+c.at, e, api.OK)
	}
}

// partKnots returns those of the curve that lie between a and b, and a and b as often
// as degree + 1.
func partKnots(m model, a, b *big.Rat) []*big.Rat {
	out := repeat(a, m.degree+1)
	for _, x := range m.k {
		if x.Cmp(a) > 0 && x.Cmp(b) < 0 {
			out = append(out, x)
		}
	}
	return append(out, repeat(b, m.degree+1)...)
}

// few returns at most 8 numbers of a list, from all parts of it.
func few(list []*big.Rat) []*big.Rat {
	var out []*big.Rat
	for i := 0; i < len(list); i += 1 + len(list)/8 {
		out = append(out, list[i])
	}
	return out
}

func TestSplit(t *testing.T) {
	for _, c := range append(curves(), wave()) {
		m := modelOf(c)
		for _, x := range few(m.parameters()) {
			if equal(x, m.first()) || equal(x, m.last()) {
				continue
			}
			lower, upper, e := curve.Split(c, rat(x))
			what := "Split at " + x.RatString() + " of " + showCurve(c)
			expectError(t, what, e, api.OK)
			expectCurve(t, "the lower part of "+what, lower, m.degree, partKnots(m, m.first(), x), c)
			expectCurve(t, "the upper part of "+what, upper, m.degree, partKnots(m, x, m.last()), c)
			expectJoined(t, what, lower, upper, c, x)
		}
	}
}

// expectJoined looks whether both parts, joined, are the curve with t as often as
// degree. It may have one pole too many.
func expectJoined(t *testing.T, what string, lower, upper, c api.Curve, x *big.Rat) {
	t.Helper()
	m := modelOf(c)
	joined, e := curve.Join(lower, upper)
	if len(lower.Poles)+len(upper.Poles)-1 > api.MaxPoles {
		expectError(t, "Join after "+what, e, api.ErrSize)
		return
	}
	expectError(t, "Join after "+what, e, api.OK)
	expectCurve(t, "Join after "+what, joined, m.degree, sorted(m.k, repeat(x, m.degree-count(m.k, x))...), c)
}

func TestSplitOutOfRange(t *testing.T) {
	for _, c := range append(curves(), quarter()) {
		m := modelOf(c)
		for _, x := range append(m.outside(), m.first(), m.last()) {
			lower, upper, e := curve.Split(c, rat(x))
			expectError(t, "Split at "+x.RatString()+" of "+showCurve(c), e, api.ErrRange)
			expectNothing(t, "the lower part", lower)
			expectNothing(t, "the upper part", upper)
		}
	}
}

// P10.7

func TestPiecesOfExamples(t *testing.T) {
	for _, c := range []struct {
		c    api.Curve
		want []string
	}{
		{quarter(), []string{"2: 0 0 0 1 1 1: 1 0 0 1; 1 1 0 1; 0 1 0 2"}},
		{curveOf(1, "0 0 1 3 3", "0 0 0 1; 1 1 0 2; 1 5 0 2"), []string{"1: 0 0 1 1: 0 0 0 1; 1 1 0 2", "1: 1 1 3 3: 1 1 0 2; 1 5 0 2"}},
		{curveOf(2, "0 0 0 1 2 2 2", "0 0 0 1; 1 0 0 1; 1 2 0 1; 2 2 0 1"), []string{"2: 0 0 0 1 1 1: 0 0 0 1; 1 0 0 1; 1 1 0 1", "2: 1 1 1 2 2 2: 1 1 0 1; 1 2 0 1; 2 2 0 1"}},
	} {
		got := curve.Pieces(c.c)
		if len(got) != len(c.want) {
			t.Fatalf("Pieces: %d", len(got))
		}
		for i, piece := range got {
			expectText(t, "a piece", showCurve(piece), c.want[i])
		}
	}
}

func TestPieces(t *testing.T) {
	for _, c := range append(curves(), wave()) {
		m := modelOf(c)
		ends := distinct(m.k)
		got := curve.Pieces(c)
		if len(got) != len(ends)-1 {
			t.Fatalf("%d pieces of %s", len(got), showCurve(c))
		}
		for i, piece := range got {
			expectCurve(t, "a piece of "+showCurve(c), piece, m.degree, partKnots(m, ends[i], ends[i+1]), c)
		}
	}
}
