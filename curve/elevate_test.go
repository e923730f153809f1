package curve_test

import (
	"math/big"
	"slices"
	"testing"

	"brepkernel/api"
	"brepkernel/curve"
)

// P10.5

func TestElevateOfExamples(t *testing.T) {
	for _, c := range []struct {
		c    api.Curve
		want string
	}{
		{curveOf(1, "0 0 1 1", "0 0 0 1; 2 4 6 3"), "2: 0 0 0 1 1 1: 0 0 0 1; 3/2 3 9/2 2; 2 4 6 3"},
		{curveOf(1, "0 0 1 3 3", "0 0 0 1; 1 1 0 1; 1 5 0 1"), "2: 0 0 0 1 1 3 3 3: 0 0 0 1; 1/2 1/2 0 1; 1 1 0 1; 1 3 0 1; 1 5 0 1"},
		{quarter(), "3: 0 0 0 0 1 1 1 1: 1 0 0 1; 1 2/3 0 1; 1/2 1 0 4/3; 0 1 0 2"},
		{curveOf(2, "0 0 0 1 2 2 2", "0 0 0 1; 3 0 0 1; 3 6 0 1; 6 6 0 1"), "3: 0 0 0 0 1 1 2 2 2 2: 0 0 0 1; 2 0 0 1; 3 1 0 1; 3 5 0 1; 4 6 0 1; 6 6 0 1"},
	} {
		got, e := curve.Elevate(c.c)
		expectText(t, "Elevate of "+showCurve(c.c), showCurve(got), c.want)
		expectError(t, "Elevate of "+showCurve(c.c), e, api.OK)
	}
}

func TestElevate(t *testing.T) {
	found := map[api.Errno]int{}
	for _, c := range curves() {
		m := modelOf(c)
		got, e := curve.Elevate(c)
		what := "Elevate of " + showCurve(c)
		want := api.OK
		switch {
		case m.degree == api.MaxDegree:
			want = api.ErrRange
		case len(c.Poles)+len(m.inner())+1 > api.MaxPoles:
			want = api.ErrSize
		}
		found[want]++
		expectError(t, what, e, want)
		if e != api.OK {
			expectNothing(t, what, got)
			continue
		}
		expectCurve(t, what, got, m.degree+1, sorted(m.k, distinct(m.k)...), c)
	}
	for _, e := range []api.Errno{api.OK, api.ErrRange, api.ErrSize} {
		if found[e] < 5 {
			t.Errorf("these curves find the error %d %d times", e, found[e])
		}
	}
}

// From the degree 1 on, up to the greatest one.
func TestElevateOften(t *testing.T) {
	s := source(5)
	first := s.withKnots(1, exact("-1 -1 0 1/3 2 2"), s.number)
	c := first
	for degree := 2; degree <= api.MaxDegree; degree++ {
		up, e := curve.Elevate(c)
		expectError(t, "Elevate", e, api.OK)
		k := slices.Concat(repeat(exact("-1")[0], degree+1), repeat(exact("0")[0], degree), repeat(exact("1/3")[0], degree), repeat(exact("2")[0], degree+1))
		expectCurve(t, "Elevate", up, degree, k, first)
		c = up
	}
	_, e := curve.Elevate(c)
	expectError(t, "Elevate above the greatest degree", e, api.ErrRange)
}

// There may be as many poles as api.MaxPoles says, and not more. A degree that is too
// great is found first.
func TestElevateToMostPoles(t *testing.T) {
	for degree := 1; degree < api.MaxDegree; degree++ {
		s := source(degree)
		// With n inner knots there are degree + 1 + n poles, and then degree + 2 + 2 n.
		most := (api.MaxPoles - degree - 2) / 2
		for n := most - 1; n <= most+1; n++ {
			all := evenly(n + 2)
			k := slices.Concat(repeat(all[0], degree), all, repeat(all[n+1], degree))
			c := s.withKnots(degree, k, s.simple)
			got, e := curve.Elevate(c)
			if n > most {
				expectError(t, "Elevate to too many poles", e, api.ErrSize)
				expectNothing(t, "Elevate to too many poles", got)
				continue
			}
			expectError(t, "Elevate to many poles", e, api.OK)
			expectCurve(t, "Elevate to many poles", got, degree+1, sorted(k, all...), c)
		}
	}
	for _, c := range fullCurves() {
		_, e := curve.Elevate(c)
		want := api.ErrSize
		if c.Degree == api.MaxDegree {
			want = api.ErrRange
		}
		expectError(t, "Elevate of a curve with the most poles", e, want)
	}
}

// The numbers of curves may have api.MaxBits bits.
func TestLongNumbers(t *testing.T) {
	s := source(6)
	long := func() *big.Rat { return s.long(api.MaxBits) }
	all := ascending(3, long)
	k := slices.Concat(repeat(all[0], 3), all[1:2], repeat(all[2], 3))
	c := s.withKnots(2, k, long)
	m := modelOf(c)
	expectError(t, "Check of long numbers", curve.Check(c), api.OK)
	x := between(all[1], all[2], big.NewRat(1, 3))
	got, _ := curve.Eval(c, rat(x))
	expectText(t, "Eval of long numbers", showPoint(got), showPoint(m.point(x)))
	up, _ := curve.Elevate(c)
	expectCurve(t, "Elevate of long numbers", up, 3, sorted(k, all...), c)
	lower, upper, _ := curve.Split(c, rat(x))
	expectCurve(t, "Split of long numbers", lower, 2, partKnots(m, all[0], x), c)
	expectCurve(t, "Split of long numbers", upper, 2, partKnots(m, x, all[2]), c)
	// What is longer than a valid curve may be is still computed with.
	expectError(t, "Check of the part", curve.Check(lower), api.ErrSize)
	middle := between(all[0], all[1], big.NewRat(1, 5))
	more, e := curve.Insert(lower, rat(middle))
	expectError(t, "Insert of long numbers", e, api.OK)
	expectCurve(t, "Insert of long numbers", more, 2, sorted(partKnots(m, all[0], x), middle), c)
}
