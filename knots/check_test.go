package knots_test

import (
	"math"
	"math/big"
	"slices"
	"testing"

	"brepkernel/api"
	"brepkernel/knots"
)

// P8.1

func expectCheck(t *testing.T, k []*big.Rat, degree int, want api.Errno) {
	t.Helper()
	if e := knots.Check(rats(k), degree); e != want {
		t.Errorf("%s: %d; expected %d", of("Check", k, degree), e, want)
	}
}

func TestCheckOfValidKnots(t *testing.T) {
	for _, v := range validKnots() {
		expectCheck(t, v.knots, v.degree, api.OK)
		if got := knots.Poles(rats(v.knots), v.degree); got != len(v.knots)-v.degree-1 {
			t.Errorf("%s: %d", of("Poles", v.knots, v.degree), got)
		}
	}
	for text, want := range map[string]int{"0 0 1 1": 2, "0 0 1 2 2": 3, "-1/2 -1/2 -1/3 0 1/7 1/7": 4} {
		expectCheck(t, exact(text), 1, api.OK)
		if got := knots.Poles(list(text), 1); got != want {
			t.Errorf("Poles of (%s): %d", text, got)
		}
	}
}

// The degree is looked at before the list.
func TestCheckOfDegrees(t *testing.T) {
	lists := [][]*big.Rat{nil, exact("0"), exact("0 0 1 1"), exact("1 0"), exact("0 0 0 0 0 0 0 0 1 1 1 1 1 1 1 1"), make50(), slices.Repeat(exact("1 0"), 100)}
	for _, degree := range []int{0, -1, -2, -7, api.MaxDegree + 1, 100, math.MaxInt, math.MaxInt - 1, math.MaxInt / 2, math.MinInt, math.MinInt + 1, math.MinInt / 2} {
		for _, k := range lists {
			expectCheck(t, k, degree, api.ErrArg)
		}
	}
	for degree := 1; degree <= api.MaxDegree; degree++ {
		expectCheck(t, slices.Concat(slices.Repeat(exact("0"), degree+1), slices.Repeat(exact("1"), degree+1)), degree, api.OK)
	}
}

// make50 returns the numbers from 0 to 49.
func make50() []*big.Rat {
	var out []*big.Rat
	for i := range 50 {
		out = append(out, big.NewRat(int64(i), 1))
	}
	return out
}

func TestCheckOfNumbersOfKnots(t *testing.T) {
	for degree := 1; degree <= api.MaxDegree; degree++ {
		for n := range 2*degree + 2 {
			k := slices.Concat(slices.Repeat(exact("0"), n/2), slices.Repeat(exact("1"), n-n/2))
			expectCheck(t, k, degree, api.ErrKnots)
			expectCheck(t, make50()[:n], degree, api.ErrKnots)
		}
		clamped := func(poles int) []*big.Rat {
			all := make50()[:poles-degree+1]
			return slices.Concat(slices.Repeat(all[:1], degree), all, slices.Repeat(all[len(all)-1:], degree))
		}
		most := api.MaxPoles
		expectCheck(t, clamped(most-1), degree, api.OK)
		expectCheck(t, clamped(most), degree, api.OK)
		expectCheck(t, clamped(most+1), degree, api.ErrSize)
		expectCheck(t, clamped(most+3), degree, api.ErrSize)
		// The size is looked at before the order and the numbers of equal knots.
		for _, k := range [][]*big.Rat{slices.Repeat(exact("1"), most+degree+2), slices.Repeat(exact("1 0"), most), make50()[:most+degree+2]} {
			expectCheck(t, k, degree, api.ErrSize)
			expectCheck(t, k[:most+degree+1], degree, api.ErrKnots)
		}
	}
}

func TestCheckOfOrder(t *testing.T) {
	for _, v := range validKnots() {
		for i := 1; i < len(v.knots); i++ {
			k := slices.Clone(v.knots)
			k[i-1], k[i] = k[i], k[i-1]
			if v.knots[i-1].Cmp(v.knots[i]) == 0 {
				expectCheck(t, k, v.degree, api.OK)
				continue
			}
			expectCheck(t, k, v.degree, api.ErrKnots)
		}
		slices.Reverse(v.knots)
		expectCheck(t, v.knots, v.degree, api.ErrKnots)
	}
	expectCheck(t, exact("1 1 0 0"), 1, api.ErrKnots)
	expectCheck(t, exact("0 0 3 2 1 4 4"), 1, api.ErrKnots)
	expectCheck(t, exact("0 0 2 2 1 1 3 3 3"), 2, api.ErrKnots)
	expectCheck(t, exact("0 0 1 0 1 1"), 1, api.ErrKnots)
	expectCheck(t, exact("0 1 0 1"), 1, api.ErrKnots)
	expectCheck(t, exact("-1 -1 -2 3 3"), 1, api.ErrKnots)
	expectCheck(t, exact("-2 -2 -1 3 3"), 1, api.OK)
	expectCheck(t, exact("1/3 1/3 1/2 2/3 2/3"), 1, api.OK)
	expectCheck(t, exact("1/3 1/3 1/4 2/3 2/3"), 1, api.ErrKnots)
}

// The first and the last knot occur exactly degree + 1 times, the others at most
// degree times.
func TestCheckOfEqualKnots(t *testing.T) {
	for degree := 1; degree <= api.MaxDegree; degree++ {
		for first := degree; first <= degree+2; first++ {
			for last := degree; last <= degree+2; last++ {
				for inner := range degree + 3 {
					// The two single knots make up for those that may be lacking.
					k := slices.Concat(slices.Repeat(exact("0"), first), exact("1"), slices.Repeat(exact("2"), inner), exact("3"), slices.Repeat(exact("4"), last))
					want := api.ErrKnots
					if first == degree+1 && last == degree+1 && inner <= degree {
						want = api.OK
					}
					expectCheck(t, k, degree, want)
				}
			}
		}
		for n := 2*degree + 2; n <= 3*degree+3; n++ {
			expectCheck(t, slices.Repeat(exact("5"), n), degree, api.ErrKnots)
			expectCheck(t, slices.Concat(slices.Repeat(exact("5"), n-degree-1), slices.Repeat(exact("6"), degree+1)), degree, okIf(n == 2*degree+2))
			expectCheck(t, slices.Concat(slices.Repeat(exact("5"), degree+1), slices.Repeat(exact("6"), n-degree-1)), degree, okIf(n == 2*degree+2))
		}
	}
	// Each of several inner knots counts for itself.
	expectCheck(t, exact("0 0 0 1 1 2 2 3 3 4 4 4"), 2, api.OK)
	expectCheck(t, exact("0 0 0 1 1 1 2 3 3 4 4 4"), 2, api.ErrKnots)
	expectCheck(t, exact("0 0 0 1 1 2 3 3 3 4 4 4"), 2, api.ErrKnots)
	// Numbers that differ by very little are different.
	expectCheck(t, exact("0 0 1e-300 1 1"), 1, api.OK)
	expectCheck(t, exact("0 1e-300 1 1"), 1, api.ErrKnots)
	expectCheck(t, exact("0 0 1e300 1000000000000000000000001e276 1000000000000000000000001e276"), 1, api.OK)
}

func okIf(b bool) api.Errno {
	if b {
		return api.OK
	}
	return api.ErrKnots
}

// checkByDefinition returns what the chapter says, word by word, for a permitted
// degree.
func checkByDefinition(k []*big.Rat, degree int) api.Errno {
	if len(k) < 2*degree+2 {
		return api.ErrKnots
	}
	if len(k)-degree-1 > api.MaxPoles {
		return api.ErrSize
	}
	first, last := k[0], k[len(k)-1]
	wrong := first.Cmp(last) == 0
	for i, x := range k {
		times := 0
		for _, y := range k {
			if x.Cmp(y) == 0 {
				times++
			}
		}
		end := x.Cmp(first) == 0 || x.Cmp(last) == 0
		wrong = wrong || i > 0 && x.Cmp(k[i-1]) < 0 || end && times != degree+1 || !end && times > degree
	}
	return okIf(!wrong)
}

func TestCheckOfAnyLists(t *testing.T) {
	s := source(3)
	found := map[api.Errno]int{}
	for range 6000 {
		degree := 1 + s.below(3)
		k := exact("0 0 0 0")[:max(0, degree+1-s.below(20)/19)]
		for x := range 1 + s.below(5) {
			k = append(k, slices.Repeat([]*big.Rat{big.NewRat(int64(x), 2)}, s.below(degree+2))...)
		}
		k = append(k, slices.Repeat(exact("3"), degree+1-s.below(20)/19)...)
		want := checkByDefinition(k, degree)
		found[want]++
		expectCheck(t, k, degree, want)
	}
	for _, k := range anyLists() {
		for degree := 1; degree <= 3; degree++ {
			expectCheck(t, k, degree, checkByDefinition(k, degree))
		}
	}
	if found[api.OK] < 500 || found[api.ErrKnots] < 500 {
		t.Errorf("%v: these lists find too little", found)
	}
}
