package basis_test

import (
	"math/big"
	"slices"
	"strconv"
	"testing"

	"brepkernel/api"
	"brepkernel/basis"
)

// P9.1

func TestValuesOfExamples(t *testing.T) {
	for _, c := range []struct {
		k      string
		degree int
		t      string
		from   int
		want   string
	}{
		{"0 0 0 1 1 1", 2, "1/2", 0, "1/4 1/2 1/4"}, {"0 0 0 1 1 1", 2, "0", 0, "1 0 0"}, {"0 0 0 1 1 1", 2, "1", 0, "0 0 1"},
		{"0 0 1 1", 1, "0", 0, "1 0"}, {"0 0 1 1", 1, "1/3", 0, "2/3 1/3"}, {"0 0 1 1", 1, "1", 0, "0 1"},
		{"0 0 0 1 2 2 2", 2, "1/2", 0, "1/4 5/8 1/8"}, {"0 0 0 1 2 2 2", 2, "1", 1, "1/2 1/2 0"}, {"0 0 0 1 2 2 2", 2, "2", 1, "0 0 1"},
		{"0 0 0 1 1 2 2 2", 2, "1/2", 0, "1/4 1/2 1/4"}, {"0 0 0 1 1 2 2 2", 2, "1", 2, "1 0 0"}, {"0 0 0 1 1 2 2 2", 2, "2", 2, "0 0 1"},
		{"0 0 1 3 3", 1, "2", 1, "1/2 1/2"}, {"-1 -1 0 1 1", 1, "-1/4", 0, "1/4 3/4"}, {"-1 -1 0 1 1", 1, "0", 1, "1 0"}, {"-1 -1 0 1 1", 1, "1", 1, "0 1"},
		{"0 0 0 0 1 2 3 4 4 4 4", 3, "2", 2, "1/6 2/3 1/6 0"}, {"0 0 0 0 1 1 1 1", 3, "1/3", 0, "8/27 4/9 2/9 1/27"},
		{"0 0 0 0 0 0 0 1 1 1 1 1 1 1", 6, "1/2", 0, "1/64 3/32 15/64 5/16 15/64 3/32 1/64"},
	} {
		from, got, e := basis.Values(list(c.k), c.degree, num(c.t))
		expectText(t, "Values of ("+c.k+") at "+c.t, show(got...), c.want)
		if from != c.from || e != api.OK {
			t.Errorf("Values of (%s) at %s: from %d, error %d", c.k, c.t, from, e)
		}
	}
}

// The functions that Values returns are those of the recursion, and the others are 0.
func TestValues(t *testing.T) {
	zero := new(big.Rat)
	for _, p := range splines() {
		for _, x := range p.parameters() {
			from, got, e := basis.Values(rats(p.k), p.degree, rat(x))
			what := of("Values at "+x.RatString(), p)
			if from != p.interval(x)-p.degree || len(got) != p.degree+1 || e != api.OK {
				t.Fatalf("%s: %d values from %d on, error %d", what, len(got), from, e)
			}
			all := p.functions(p.interval(x), x)
			expect(t, what, got, all[from:from+p.degree+1])
			for i, value := range all {
				if (i < from || i > from+p.degree) && value.Cmp(zero) != 0 {
					t.Fatalf("%s: the function %d is %s", what, i, value.RatString())
				}
			}
		}
	}
}

// The chapter's consequences.
func TestValuesHaveTheSumOne(t *testing.T) {
	for _, p := range splines() {
		for _, x := range p.parameters() {
			_, got, _ := basis.Values(rats(p.k), p.degree, rat(x))
			sum := new(big.Rat)
			for _, r := range got {
				if r.Neg {
					t.Fatalf("%s: %s", of("Values at "+x.RatString(), p), show(got...))
				}
				value, _ := new(big.Rat).SetString(show(r))
				sum.Add(sum, value)
			}
			expectText(t, of("the sum of Values at "+x.RatString(), p), sum.RatString(), "1")
		}
	}
}

func TestValuesOutOfRange(t *testing.T) {
	for _, p := range splines() {
		for _, x := range p.outside() {
			if from, got, e := basis.Values(rats(p.k), p.degree, rat(x)); from != 0 || len(got) > 0 || e != api.ErrRange {
				t.Errorf("%s: (%s) from %d on, error %d", of("Values at "+x.RatString(), p), show(got...), from, e)
			}
		}
	}
}

// P9.2

func TestSumOfExamples(t *testing.T) {
	for _, c := range []struct {
		k      string
		degree int
		c      string
		values map[string]string
	}{
		{"0 0 0 1 2 2 2", 2, "4 0 8 1", map[string]string{"0": "4", "1/2": "2", "1": "4", "3/2": "21/4", "2": "1"}},
		{"0 0 1 1", 1, "3 -1", map[string]string{"0": "3", "1/2": "1", "3/4": "0", "1": "-1"}},
		{"0 0 1 3 3", 1, "0 2 -2", map[string]string{"0": "0", "1/2": "1", "1": "2", "2": "0", "3": "-2"}},
		{"0 0 0 1 1 2 2 2", 2, "0 0 1 1 0", map[string]string{"1/2": "1/4", "1": "1", "3/2": "3/4", "2": "0"}},
		{"-1 -1 -1 -1 1 1 1 1", 3, "-1 1 -1 1", map[string]string{"-1": "-1", "-1/2": "-1/8", "0": "0", "1/3": "1/27", "1": "1"}},
	} {
		for x, want := range c.values {
			got, e := basis.Sum(list(c.k), c.degree, list(c.c), num(x))
			expectText(t, "Sum of ("+c.c+") with the knots ("+c.k+") at "+x, show(got), want)
			if e != api.OK {
				t.Errorf("Sum of (%s) with the knots (%s) at %s: error %d", c.c, c.k, x, e)
			}
		}
	}
}

func TestSum(t *testing.T) {
	for _, p := range splines() {
		for _, x := range p.parameters() {
			got, e := basis.Sum(rats(p.k), p.degree, rats(p.c), rat(x))
			expect(t, of("Sum at "+x.RatString(), p), []api.Rat{got}, []*big.Rat{p.polynomial(p.interval(x), x)})
			if e != api.OK {
				t.Fatalf("%s: error %d", of("Sum at "+x.RatString(), p), e)
			}
		}
	}
}

// wrongLengths returns lists with too few and with too many elements.
func wrongLengths(right []api.Rat) [][]api.Rat {
	n := len(right)
	out := [][]api.Rat{nil, right[:n-1], append(slices.Clone(right), num("1")), slices.Concat(right, right)}
	if n > 1 {
		out = append(out, right[:1])
	}
	return out
}

// The number of coefficients is looked at before the parameter.
func TestSumWithErrors(t *testing.T) {
	check := func(p spline, c []api.Rat, x *big.Rat, want api.Errno) {
		if got, e := basis.Sum(rats(p.k), p.degree, c, rat(x)); e != want || show(got) != "0" {
			t.Errorf("%s with %d coefficients: %s, error %d", of("Sum at "+x.RatString(), p), len(c), show(got), e)
		}
	}
	for _, p := range splines() {
		for _, x := range p.outside() {
			check(p, rats(p.c), x, api.ErrRange)
		}
		for _, c := range wrongLengths(rats(p.c)) {
			for _, x := range slices.Concat(p.parameters()[:2], p.outside()) {
				check(p, c, x, api.ErrArg)
			}
		}
	}
}

// P9.3

func TestBlossomOfExamples(t *testing.T) {
	for _, c := range []struct {
		k      string
		degree int
		c      string
		piece  int
		args   string
		want   string
	}{
		{"0 0 0 1 1 1", 2, "0 0 1", 2, "1/2 1", "1/2"}, {"0 0 0 1 1 1", 2, "0 0 1", 2, "3 -5", "-15"}, {"0 0 0 1 1 1", 2, "0 1/2 1", 2, "3 -5", "-1"},
		{"0 0 1 1", 1, "3 -1", 1, "1/2", "1"}, {"0 0 1 1", 1, "3 -1", 1, "2", "-5"}, {"0 0 1 1", 1, "3 -1", 1, "-1", "7"},
		{"0 0 0 1 2 2 2", 2, "4 0 8 1", 2, "0 0", "4"}, {"0 0 0 1 2 2 2", 2, "4 0 8 1", 2, "0 1", "0"}, {"0 0 0 1 2 2 2", 2, "4 0 8 1", 2, "1 0", "0"},
		{"0 0 0 1 2 2 2", 2, "4 0 8 1", 2, "1 2", "8"}, {"0 0 0 1 2 2 2", 2, "4 0 8 1", 3, "1 2", "8"}, {"0 0 0 1 2 2 2", 2, "4 0 8 1", 3, "0 1", "0"},
		{"0 0 0 1 2 2 2", 2, "4 0 8 1", 3, "2 2", "1"}, {"0 0 0 1 2 2 2", 2, "4 0 8 1", 2, "2 2", "20"},
		{"0 0 0 0 1 1 1 1", 3, "0 0 0 1", 3, "2 3 5", "30"}, {"0 0 0 0 1 1 1 1", 3, "0 0 1/3 1", 3, "2 3 5", "31/3"},
		{"-1 -1 0 1 1", 1, "1 0 1", 1, "1", "-1"}, {"-1 -1 0 1 1", 1, "1 0 1", 2, "1", "1"},
	} {
		got, e := basis.Blossom(list(c.k), c.degree, list(c.c), c.piece, list(c.args))
		what := "Blossom of (" + c.c + ") with the knots (" + c.k + "), on the interval " + strconv.Itoa(c.piece) + ", of (" + c.args + ")"
		expectText(t, what, show(got), c.want)
		if e != api.OK {
			t.Errorf("%s: error %d", what, e)
		}
	}
}

// blossom returns what Blossom does, and fails if it returns an error.
func blossom(t *testing.T, p spline, piece int, args []*big.Rat) api.Rat {
	t.Helper()
	got, e := basis.Blossom(rats(p.k), p.degree, rats(p.c), piece, rats(args))
	if e != api.OK {
		t.Fatalf("%s: error %d", blossomOf(p, piece, args), e)
	}
	return got
}

func blossomOf(p spline, piece int, args []*big.Rat) string {
	return of("Blossom on the interval "+strconv.Itoa(piece), p) + " of (" + show(rats(args)...) + ")"
}

// argumentsFor returns arguments from the interval, and others.
func argumentsFor(p spline, piece int, s *source) [][]*big.Rat {
	some := s.list(p.degree)
	inside := make([]*big.Rat, p.degree)
	for i := range inside {
		inside[i] = between(p.k[piece], p.k[piece+1], big.NewRat(int64(s.below(8)), 7))
	}
	return [][]*big.Rat{some, inside, slices.Concat(some[:p.degree/2], inside[p.degree/2:])}
}

func TestBlossom(t *testing.T) {
	s := source(2)
	for _, p := range splines() {
		for _, piece := range p.intervals() {
			args := argumentsFor(p, piece, &s)[s.below(3)]
			expect(t, blossomOf(p, piece, args), []api.Rat{blossom(t, p, piece, args)}, []*big.Rat{p.polar(piece, args)})
		}
	}
}

// With equal arguments, inside of the interval and outside of it, the polar form is
// the polynomial.
func TestBlossomOfEqualArguments(t *testing.T) {
	s := source(3)
	for _, p := range splines() {
		for _, piece := range p.intervals() {
			for _, x := range append(s.list(2), p.k[piece], p.k[piece+1], between(p.k[piece], p.k[piece+1], big.NewRat(1, 3))) {
				args := slices.Repeat([]*big.Rat{x}, p.degree)
				got := blossom(t, p, piece, args)
				expect(t, blossomOf(p, piece, args), []api.Rat{got}, []*big.Rat{p.polynomial(piece, x)})
				if p.k[piece].Cmp(x) > 0 || x.Cmp(p.k[piece+1]) > 0 {
					continue
				}
				sum, _ := basis.Sum(rats(p.k), p.degree, rats(p.c), rat(x))
				expectText(t, of("Sum at "+x.RatString(), p), show(sum), show(got))
			}
		}
	}
}

func TestBlossomIsSymmetric(t *testing.T) {
	s := source(4)
	for _, p := range splines() {
		for _, piece := range p.intervals() {
			args := argumentsFor(p, piece, &s)[s.below(3)]
			want := show(blossom(t, p, piece, args))
			for range 3 {
				changed := slices.Clone(args)
				i, j := s.below(p.degree), s.below(p.degree)
				changed[i], changed[j] = changed[j], changed[i]
				slices.Reverse(changed[:1+s.below(p.degree)])
				expectText(t, blossomOf(p, piece, changed), show(blossom(t, p, piece, changed)), want)
			}
		}
	}
}

func TestBlossomIsAffine(t *testing.T) {
	s := source(5)
	for _, p := range splines() {
		for _, piece := range p.intervals() {
			args, at := s.list(p.degree), s.below(p.degree)
			with := func(x *big.Rat) []*big.Rat {
				return slices.Concat(args[:at], []*big.Rat{x}, args[at+1:])
			}
			value := func(x *big.Rat) *big.Rat {
				return exact(show(blossom(t, p, piece, with(x))))[0]
			}
			x, y, share := s.number(), s.number(), s.number()
			middle := between(x, y, share)
			expect(t, blossomOf(p, piece, with(middle)), []api.Rat{blossom(t, p, piece, with(middle))}, []*big.Rat{between(value(x), value(y), share)})
		}
	}
}

// Each coefficient is the polar form of the knots behind the one with its index, for
// each interval on which it has an effect.
func TestBlossomOfKnots(t *testing.T) {
	for _, p := range splines() {
		for _, piece := range p.intervals() {
			for j := piece - p.degree; j <= piece; j++ {
				args := p.k[j+1 : j+1+p.degree]
				expect(t, blossomOf(p, piece, args), []api.Rat{blossom(t, p, piece, args)}, p.c[j:j+1])
			}
		}
	}
}

func expectError(t *testing.T, p spline, c []api.Rat, piece int, args []api.Rat, want api.Errno) {
	t.Helper()
	if got, e := basis.Blossom(rats(p.k), p.degree, c, piece, args); e != want || show(got) != "0" {
		t.Errorf("%s with %d coefficients, on the interval %d, of %d arguments: %s, error %d", of("Blossom", p), len(c), piece, len(args), show(got), e)
	}
}

// emptyPieces returns indices that are not those of an interval between different knots.
func (p spline) emptyPieces() []int {
	out := []int{-1, -2, -p.degree, -1 << 63, len(p.k) - 1, len(p.k), len(p.k) + 1, 1<<63 - 1}
	for i := range len(p.k) - 1 {
		if p.k[i].Cmp(p.k[i+1]) == 0 {
			out = append(out, i)
		}
	}
	return out
}

// The numbers of coefficients and of arguments are looked at before the interval.
func TestBlossomWithErrors(t *testing.T) {
	s := source(6)
	for _, p := range splines() {
		c, args := rats(p.c), rats(s.list(p.degree))
		for _, piece := range p.emptyPieces() {
			expectError(t, p, c, piece, args, api.ErrRange)
		}
		pieces := append(p.emptyPieces(), p.intervals()...)
		for _, piece := range []int{pieces[0], pieces[s.below(len(pieces))], pieces[len(pieces)-1]} {
			for _, wrong := range wrongLengths(c) {
				expectError(t, p, wrong, piece, args, api.ErrArg)
				expectError(t, p, wrong, piece, nil, api.ErrArg)
			}
			for _, wrong := range wrongLengths(args) {
				expectError(t, p, c, piece, wrong, api.ErrArg)
			}
		}
	}
}
