package bernstein_test

import (
	"math/big"
	"testing"

	"brepkernel/api"
	"brepkernel/bernstein"
	"brepkernel/rational"
)

// P5.4

// sumOfPowers returns the value of a polynomial with coefficients of powers.
func sumOfPowers(c []api.Rat, x *big.Rat) *big.Rat {
	sum := new(big.Rat)
	for i, r := range c {
		sum.Add(sum, times(exact(r), power(x, i)))
	}
	return sum
}

func TestToPowers(t *testing.T) {
	for text, want := range map[string]string{
		"1 0 3": "1 -2 4", "7": "7", "0": "0", "0 1": "0 1", "1 1 1": "1 0 0", "0 0 0 1": "0 0 0 1", "1 0 0 0": "1 -3 3 -1", "1/2 1/3": "1/2 -1/6",
	} {
		expectText(t, "ToPowers("+text+")", show(bernstein.ToPowers(poly(text))), want)
	}
	s := source(21)
	for _, n := range degrees() {
		p := s.poly(n)
		c := bernstein.ToPowers(p)
		if len(c) != n+1 {
			t.Fatalf("ToPowers(%s): %d coefficients", show(p), len(c))
		}
		for _, x := range places(n) {
			if got := sumOfPowers(c, x); got.Cmp(value(p, x)) != 0 {
				t.Fatalf("ToPowers(%s) = %s, which is %s at %s; expected %s", show(p), show(c), got, x, value(p, x))
			}
		}
	}
}

func TestFromPowers(t *testing.T) {
	for text, want := range map[string]string{
		"1 -2 4": "1 0 3", "7": "7", "0": "0", "0 0 0": "0 0 0", "0 1 0": "0 1/2 1", "1 0 0 0": "1 1 1 1", "0 0 0 1": "0 0 0 1", "1/2 -1/6": "1/2 1/3",
	} {
		p, e := bernstein.FromPowers(poly(text))
		expectText(t, "FromPowers("+text+")", show(p), want)
		if e != api.OK {
			t.Errorf("FromPowers(%s): error %d", text, e)
		}
	}
	s := source(22)
	for _, n := range degrees() {
		c := s.poly(n)
		p, e := bernstein.FromPowers(c)
		expect(t, "FromPowers("+show(c)+")", p, n, func(x *big.Rat) *big.Rat { return sumOfPowers(c, x) })
		if e != api.OK {
			t.Fatalf("FromPowers(%s): error %d", show(c), e)
		}
		expectText(t, "powers and back", show(bernstein.ToPowers(p)), show(c))
	}
}

func TestFromPowersOfWrongSize(t *testing.T) {
	for _, c := range [][]api.Rat{nil, {}, make([]api.Rat, api.MaxPoly+2), constant(api.MaxPoly+1, rational.Int(1)), make([]api.Rat, 100000)} {
		if p, e := bernstein.FromPowers(c); len(p) != 0 || e != api.ErrSize {
			t.Errorf("FromPowers of %d: %s, %d", len(c), show(p), e)
		}
	}
}

func TestTrim(t *testing.T) {
	for text, want := range map[string]string{
		"1 0 3": "1 0 3", "1 1/2 2/3 3/2 3": "1 0 3", "0 1/2 1": "0 1", "2 2 2": "2", "2": "2", "-1/3 -1/3": "-1/3",
		"0 0 0 0": "0", "0": "0", "0 0 1": "0 0 1", "0 0 0 1": "0 0 0 1", "1 0": "1 0", "0 1/3 2/3 1": "0 1", "0 0 1/3 1": "0 0 1",
	} {
		expectText(t, "Trim("+text+")", show(bernstein.Trim(poly(text))), want)
	}
	s := source(23)
	for _, n := range degrees() {
		c := s.poly(n)
		c[n] = num("-1/7") // the degree is n, and not less
		p, _ := bernstein.FromPowers(c)
		for _, to := range []int{n, n + 1, n + 8, api.MaxPoly} {
			if to > api.MaxPoly {
				continue
			}
			up, _ := bernstein.Elevate(p, to)
			expectText(t, "Trim("+show(up)+")", show(bernstein.Trim(up)), show(p))
		}
	}
	for _, n := range degrees() {
		expectText(t, "Trim of 0", show(bernstein.Trim(make(api.Poly, n+1))), "0")
		expectText(t, "Trim of 5", show(bernstein.Trim(constant(n, rational.Int(5)))), "5")
	}
}
