package knots_test

import (
	"math/big"
	"slices"
	"testing"

	"brepkernel/api"
	"brepkernel/knots"
	"brepkernel/rational"
)

// P8.2

func TestTimesOfExamples(t *testing.T) {
	for _, c := range []struct {
		k, t string
		want int
	}{
		{"", "0", 0}, {"0", "0", 1}, {"0", "1", 0}, {"0 0 0 1 1 2 2 2", "0", 3}, {"0 0 0 1 1 2 2 2", "1", 2}, {"0 0 0 1 1 2 2 2", "2", 3},
		{"0 0 0 1 1 2 2 2", "3/2", 0}, {"0 0 0 1 1 2 2 2", "-1", 0}, {"0 0 0 1 1 2 2 2", "3", 0}, {"-1 -1 1 1", "1", 2}, {"-1 -1 1 1", "-1", 2},
		{"2 1 2 3 2", "2", 3}, {"2 1 2 3 2", "3", 1}, {"1/2 1/3 1/2 2", "1/2", 2}, {"1/2 1/3 1/2 2", "1", 0},
		{"18446744073709551616 18446744073709551617", "18446744073709551616", 1}, {"18446744073709551616 1", "18446744073709551617", 0},
	} {
		if got := knots.Times(list(c.k), num(c.t)); got != c.want {
			t.Errorf("Times of %s in (%s): %d", c.t, c.k, got)
		}
	}
}

func TestTimes(t *testing.T) {
	for _, k := range anyLists() {
		for _, x := range append(exact("0 -7/3"), k...) {
			want := 0
			for _, y := range k {
				if x.Cmp(y) == 0 {
					want++
				}
			}
			if got := knots.Times(rats(k), rat(x)); got != want {
				t.Errorf("Times of %s in (%s): %d; expected %d", x.RatString(), show(rats(k)), got, want)
			}
		}
	}
}

func TestIntervalOfExamples(t *testing.T) {
	for _, c := range []struct {
		k      string
		degree int
		t      string
		want   int
	}{
		{"0 0 1 1", 1, "0", 1}, {"0 0 1 1", 1, "1/2", 1}, {"0 0 1 1", 1, "1", 1},
		{"0 0 0 1 2 2 2", 2, "0", 2}, {"0 0 0 1 2 2 2", 2, "999/1000", 2}, {"0 0 0 1 2 2 2", 2, "1", 3}, {"0 0 0 1 2 2 2", 2, "2", 3},
		{"0 0 0 1 1 2 2 2", 2, "1/2", 2}, {"0 0 0 1 1 2 2 2", 2, "1", 4}, {"0 0 0 1 1 2 2 2", 2, "2", 4},
		{"-3 -3 -2 -1 -1", 1, "-3", 1}, {"-3 -3 -2 -1 -1", 1, "-2", 2}, {"-3 -3 -2 -1 -1", 1, "-5/2", 1}, {"-3 -3 -2 -1 -1", 1, "-1", 2},
	} {
		if got, e := knots.Interval(list(c.k), c.degree, num(c.t)); got != c.want || e != api.OK {
			t.Errorf("Interval of %s in (%s): %d, error %d", c.t, c.k, got, e)
		}
	}
	for _, c := range [][2]string{{"0 0 1 1", "-1/1000000"}, {"0 0 1 1", "1000001/1000000"}, {"0 0 1 1", "2"}, {"0 0 1 1", "-1"}, {"-3 -3 -2 -1 -1", "0"}, {"-3 -3 -2 -1 -1", "-4"}} {
		if got, e := knots.Interval(list(c[0]), 1, num(c[1])); got != 0 || e != api.ErrRange {
			t.Errorf("Interval of %s in (%s): %d, error %d", c[1], c[0], got, e)
		}
	}
}

// intervalByDefinition returns the index, or -1 if the parameter is out of range.
func intervalByDefinition(k []*big.Rat, t *big.Rat) int {
	index := -1
	for i := range len(k) - 1 {
		last := t.Cmp(k[len(k)-1]) == 0 && k[i].Cmp(k[i+1]) < 0
		if last || k[i].Cmp(t) <= 0 && t.Cmp(k[i+1]) < 0 {
			index = i
		}
	}
	return index
}

func TestInterval(t *testing.T) {
	tiny := exact("1e-60")[0]
	for _, v := range validKnots() {
		parameters := exact("0 1 -100000 100000")
		for i, x := range v.knots {
			parameters = append(parameters, x, plus(x, tiny), minus(x, tiny), over(plus(x, v.knots[i/2]), exact("2")[0]))
		}
		for _, x := range parameters {
			want := intervalByDefinition(v.knots, x)
			wantError := api.OK
			if want < 0 {
				want, wantError = 0, api.ErrRange
			}
			if got, e := knots.Interval(rats(v.knots), v.degree, rat(x)); got != want || e != wantError {
				t.Errorf("%s: %d, error %d at %s; expected %d", of("Interval", v.knots, v.degree), got, e, x.RatString(), want)
			}
		}
	}
}

func TestDistinctOfExamples(t *testing.T) {
	for k, want := range map[string]string{
		"": "", "0": "0", "5 5 5": "5", "0 0 1 1": "0 1", "0 0 0 1 2 2 3 3 3": "0 1 2 3", "-2 -2 -1 -1/2 0 1/3 1/2 1/2": "-2 -1 -1/2 0 1/3 1/2",
		"3 1 2": "1 2 3", "1 0 1 0 1": "0 1", "2 2 -1 -1 2 1/2": "-1 1/2 2", // "ascending", whatever the order of the list
	} {
		expectText(t, "Distinct of ("+k+")", show(knots.Distinct(list(k))), want)
	}
}

func TestDistinct(t *testing.T) {
	all := anyLists()
	for _, v := range validKnots() {
		all = append(all, v.knots)
	}
	for _, k := range all {
		var want []*big.Rat
		for _, x := range k {
			if !slices.ContainsFunc(want, func(y *big.Rat) bool { return x.Cmp(y) == 0 }) {
				want = append(want, x)
			}
		}
		slices.SortFunc(want, (*big.Rat).Cmp)
		expect(t, of("Distinct", k, 0), knots.Distinct(rats(k)), want)
	}
}

func TestInsertOfExamples(t *testing.T) {
	for _, c := range [][3]string{
		{"", "7", "7"}, {"0", "1", "0 1"}, {"0", "-1", "-1 0"}, {"0", "0", "0 0"}, {"0 0 1 1", "1/2", "0 0 1/2 1 1"}, {"0 0 1 1", "0", "0 0 0 1 1"},
		{"0 0 1 1", "1", "0 0 1 1 1"}, {"0 0 1 1", "2", "0 0 1 1 2"}, {"0 0 1 1", "-2", "-2 0 0 1 1"}, {"-3 -2 -1", "-5/2", "-3 -5/2 -2 -1"},
		{"0 1 2 3", "3/2", "0 1 3/2 2 3"}, {"0 1 2 3", "2", "0 1 2 2 3"}, {"0 1/3 1/2 1", "2/5", "0 1/3 2/5 1/2 1"},
	} {
		expectText(t, "Insert of "+c[1]+" into ("+c[0]+")", show(knots.Insert(list(c[0]), num(c[1]))), c[2])
	}
}

func TestInsert(t *testing.T) {
	s := source(4)
	all := anyLists()
	for _, k := range all {
		slices.SortFunc(k, (*big.Rat).Cmp)
	}
	for _, v := range validKnots() {
		all = append(all, v.knots)
	}
	for _, k := range all {
		for _, x := range append([]*big.Rat{s.number(), s.number()}, k...) {
			want := append(slices.Clone(k), x)
			slices.SortStableFunc(want, (*big.Rat).Cmp)
			got := knots.Insert(rats(k), rat(x))
			expect(t, of("Insert of "+x.RatString(), k, 0), got, want)
			if before := knots.Times(rats(k), rat(x)); knots.Times(got, rat(x)) != before+1 {
				t.Errorf("Insert of %s into (%s): it occurs %d times more", x.RatString(), show(rats(k)), knots.Times(got, rat(x))-before)
			}
		}
	}
}

// An inner parameter may be inserted until it occurs degree times.
func TestInsertIntoValidKnots(t *testing.T) {
	for degree := 1; degree <= api.MaxDegree; degree++ {
		k := list("0 1")
		for range degree {
			k = knots.Insert(knots.Insert(k, num("1")), num("0"))
		}
		for n := range degree + 1 {
			if e := knots.Check(k, degree); e != api.OK || knots.Times(k, num("1/3")) != n {
				t.Errorf("(%s) with the degree %d: error %d", show(k), degree, e)
			}
			if i, e := knots.Interval(k, degree, num("1/3")); i != degree+n || e != api.OK {
				t.Errorf("Interval of 1/3 in (%s): %d, error %d", show(k), i, e)
			}
			k = knots.Insert(k, num("1/3"))
		}
		if e := knots.Check(k, degree); e != api.ErrKnots || len(knots.Distinct(k)) != 3 || rational.Text(knots.Distinct(k)[1]) != "1/3" {
			t.Errorf("(%s) with the degree %d: error %d", show(k), degree, e)
		}
	}
}
