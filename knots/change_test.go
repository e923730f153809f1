package knots_test

import (
	"math/big"
	"slices"
	"testing"

	"brepkernel/api"
	"brepkernel/knots"
	"brepkernel/rational"
)

// P8.3

func TestGrevilleOfExamples(t *testing.T) {
	for _, c := range []struct {
		k      string
		degree int
		want   string
	}{
		{"0 0 0 1 2 2 2", 2, "0 1/2 3/2 2"}, {"0 0 1 1", 1, "0 1"}, {"0 0 1 3 4 4", 1, "0 1 3 4"}, {"0 0 0 1 1 1", 2, "0 1/2 1"},
		{"0 0 0 0 1 1 1 1", 3, "0 1/3 2/3 1"}, {"0 0 0 1 1 2 2 2", 2, "0 1/2 1 3/2 2"}, {"-1 -1 -1 -1 0 1/2 3 3 3 3", 3, "-1 -2/3 -1/6 7/6 13/6 3"},
		{"0 0 0 0 0 0 0 1 1 1 1 1 1 1", 6, "0 1/6 1/3 1/2 2/3 5/6 1"},
	} {
		expectText(t, "Greville of ("+c.k+")", show(knots.Greville(list(c.k), c.degree)), c.want)
	}
}

func TestGreville(t *testing.T) {
	for _, v := range validKnots() {
		var want []*big.Rat
		for i := range len(v.knots) - v.degree - 1 {
			sum := new(big.Rat)
			for j := i + 1; j <= i+v.degree; j++ {
				sum.Add(sum, v.knots[j])
			}
			want = append(want, over(sum, big.NewRat(int64(v.degree), 1)))
		}
		got := knots.Greville(rats(v.knots), v.degree)
		expect(t, of("Greville", v.knots, v.degree), got, want)
		checkAbscissas(t, v, got)
	}
}

// checkAbscissas compares the number of abscissas, their order and their ends with
// what the chapter says of them.
func checkAbscissas(t *testing.T, v valid, got []api.Rat) {
	t.Helper()
	k := rats(v.knots)
	if len(got) != knots.Poles(k, v.degree) || !rational.Same(got[0], k[0]) || !rational.Same(got[len(got)-1], k[len(k)-1]) {
		t.Errorf("%s: %s", of("Greville", v.knots, v.degree), show(got))
	}
	for i := range len(got) - 1 {
		same := rational.Same(k[i+1], k[i+1+v.degree])
		if c := rational.Cmp(got[i], got[i+1]); c > 0 || (c == 0) != same {
			t.Errorf("%s: %s", of("Greville", v.knots, v.degree), show(got))
		}
	}
}

func TestAffineOfExamples(t *testing.T) {
	for _, c := range [][4]string{
		{"0 0 1 1", "0", "1", "0 0 1 1"}, {"0 0 1 1", "2", "5", "2 2 5 5"}, {"0 0 0 1 2 2 2", "-1", "5", "-1 -1 -1 2 5 5 5"},
		{"0 0 1 3 3", "0", "1", "0 0 1/3 1 1"}, {"-2 -2 -1 1 1", "-1/2", "1/2", "-1/2 -1/2 -1/6 1/2 1/2"}, {"1 2 5", "-7", "-6", "-7 -27/4 -6"},
		{"1/3 1/2", "1/5", "1/4", "1/5 1/4"}, {"0 1 2", "-1", "1", "-1 0 1"},
	} {
		got, e := knots.Affine(list(c[0]), num(c[1]), num(c[2]))
		expectText(t, "Affine of ("+c[0]+") from "+c[1]+" to "+c[2], show(got), c[3])
		if e != api.OK {
			t.Errorf("Affine of (%s) from %s to %s: error %d", c[0], c[1], c[2], e)
		}
	}
	for _, c := range [][2]string{{"0", "0"}, {"1", "1"}, {"-1/3", "-1/3"}, {"1", "0"}, {"0", "-1"}, {"2", "1"}, {"1/2", "1/3"}, {"-1", "-2"}, {"1e300", "1e-300"}} {
		for _, k := range []string{"0 0 1 1", "0 0 0 1 2 2 2", "1 2"} {
			if got, e := knots.Affine(list(k), num(c[0]), num(c[1])); len(got) != 0 || e != api.ErrRange {
				t.Errorf("Affine of (%s) from %s to %s: (%s), error %d", k, c[0], c[1], show(got), e)
			}
		}
	}
}

// ascending returns lists of at least two numbers in order, the first and the last of
// which differ. They need not be valid for a degree.
func ascending() [][]*big.Rat {
	s := source(5)
	var out [][]*big.Rat
	for _, v := range validKnots() {
		out = append(out, v.knots)
	}
	for range 60 {
		var k []*big.Rat
		for _, x := range s.numbers(2 + s.below(6)) {
			k = append(k, slices.Repeat([]*big.Rat{x}, 1+s.below(3))...)
		}
		out = append(out, k)
	}
	return out
}

func TestAffine(t *testing.T) {
	s := source(6)
	for _, k := range ascending() {
		first, last := k[0], k[len(k)-1]
		for range 3 {
			ends := s.numbers(2)
			a, b := ends[0], ends[1]
			var want []*big.Rat
			for _, x := range k {
				want = append(want, plus(a, over(times(minus(x, first), minus(b, a)), minus(last, first))))
			}
			got, e := knots.Affine(rats(k), rat(a), rat(b))
			expect(t, of("Affine", k, 0), got, want)
			back, e2 := knots.Affine(got, rat(first), rat(last))
			expect(t, "Affine, and back", back, k)
			if !rational.Same(got[0], rat(a)) || !rational.Same(got[len(got)-1], rat(b)) || e != api.OK || e2 != api.OK {
				t.Errorf("%s from %s to %s: errors %d and %d", of("Affine", k, 0), a.RatString(), b.RatString(), e, e2)
			}
			if got, e := knots.Affine(rats(k), rat(b), rat(a)); len(got) != 0 || e != api.ErrRange {
				t.Errorf("%s from %s to %s: (%s), error %d", of("Affine", k, 0), b.RatString(), a.RatString(), show(got), e)
			}
		}
	}
}

func TestMirrorOfExamples(t *testing.T) {
	for k, want := range map[string]string{
		"0 0 1 1": "0 0 1 1", "1 1 2 5 5": "1 1 4 5 5", "0 0 0 1 1 3 4 4 4": "0 0 0 1 3 3 4 4 4", "-2 -1 3": "-2 2 3", "-1/2 0 1/3": "-1/2 -1/6 1/3",
		"-5 -4 -3 -1": "-5 -3 -2 -1", "0 1 10": "0 9 10",
	} {
		expectText(t, "Mirror of ("+k+")", show(knots.Mirror(list(k))), want)
	}
}

func TestMirror(t *testing.T) {
	for _, k := range ascending() {
		sum := plus(k[0], k[len(k)-1])
		var want []*big.Rat
		for _, x := range slices.Backward(k) {
			want = append(want, minus(sum, x))
		}
		got := knots.Mirror(rats(k))
		expect(t, of("Mirror", k, 0), got, want)
		expect(t, of("Mirror twice", k, 0), knots.Mirror(got), k)
	}
}

// What is made of valid knots is valid for the same degree.
func TestChangedKnotsAreValid(t *testing.T) {
	for _, v := range validKnots() {
		k := rats(v.knots)
		moved, _ := knots.Affine(k, num("-1/7"), num("5/3"))
		for _, changed := range [][]api.Rat{moved, knots.Mirror(k), knots.Mirror(moved)} {
			if e := knots.Check(changed, v.degree); e != api.OK {
				t.Errorf("%s, changed to (%s): error %d", of("Check", v.knots, v.degree), show(changed), e)
			}
		}
	}
}
