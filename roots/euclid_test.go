package roots_test

import (
	"math/big"
	"slices"
	"testing"

	"brepkernel/api"
	"brepkernel/bernstein"
	"brepkernel/rational"
	"brepkernel/roots"
)

// P6.1

func TestDivideOfExamples(t *testing.T) {
	for _, c := range []struct{ p, q, quotient, rest string }{
		{"-1 0 0 1", "-1 1", "1 1 1", "0"}, {"1 2 3", "0 2", "1 3/2", "1"}, {"1 2", "0 0 1", "0", "1 2"}, {"0", "3 1", "0", "0"},
		{"0 0 0", "3 1", "0", "0"}, {"4 2", "2", "2 1", "0"}, {"4 2", "-2 0", "-2 -1", "0"}, {"7", "2", "7/2", "0"},
		{"1 2 0 0", "0 0 1 0 0", "0", "1 2"}, {"1 2 3 0 0", "0 2 0", "1 3/2", "1"}, {"5 0 0 1", "0 0 0 2", "1/2", "5"},
		{"1 1 1 1", "1 0 1", "1 1", "0"}, {"3 1 1 1", "1 0 1", "1 1", "2"}, {"0 0 0 0 1", "1 0 1", "-1 0 1", "1"},
		{"0 1", "1 1", "1", "-1"}, {"1/2 1/3", "1/5 1/7", "7/3", "1/30"},
	} {
		quotient, rest, e := roots.Divide(poly(c.p), poly(c.q))
		what := "Divide(" + c.p + "; " + c.q + ")"
		expectError(t, what, e, api.OK)
		expectText(t, what, show(quotient)+"; "+show(rest), c.quotient+"; "+c.rest)
	}
	for _, zero := range []string{"0", "0 0", "0 0 0 0"} {
		for _, p := range []string{"0", "1", "1 2 3"} {
			quotient, rest, e := roots.Divide(poly(p), poly(zero))
			expectError(t, "Divide by 0", e, api.ErrZero)
			if quotient != nil || rest != nil {
				t.Errorf("Divide(%s; %s) has results", p, zero)
			}
		}
	}
}

func TestDivide(t *testing.T) {
	s := source(1)
	for i := range 400 {
		p, q := s.poly(s.below(1+i%20)), s.other(s.below(1+i%9))
		checkDivide(t, p, q)
		checkDivide(t, product(p, q), q)
	}
	checkDivide(t, s.poly(api.MaxPoly), s.other(api.MaxPoly))
	checkDivide(t, s.poly(api.MaxPoly), s.other(20))
	checkDivide(t, s.poly(api.MaxPoly), s.other(1))
	checkDivide(t, s.poly(1), s.other(api.MaxPoly))
}

func checkDivide(t *testing.T, p, q api.Poly) {
	t.Helper()
	quotient, rest, e := roots.Divide(p, q)
	what := "Divide(" + show(p) + "; " + show(q) + ")"
	expectError(t, what, e, api.OK)
	wantQuotient, wantRest := modelOf(p).divide(modelOf(q))
	expectText(t, what, show(quotient)+"; "+show(rest), wantQuotient.String()+"; "+wantRest.String())
	back := bernstein.Add(product(quotient, bernstein.Trim(q)), rest)
	if !bernstein.Same(back, p) {
		t.Errorf("%s: the quotient times q and the rest are not p", what)
	}
	if len(rest) >= len(bernstein.Trim(q)) && !bernstein.Zero(rest) {
		t.Errorf("%s: the degree of the rest %s is too high", what, show(rest))
	}
}

func TestGcdOfExamples(t *testing.T) {
	for _, c := range []struct{ p, q, want string }{
		{"-1 0 1", "2 4 2", "1 1"}, {"0", "2 4", "1/2 1"}, {"0 0", "0", "0"}, {"0", "0", "0"}, {"-1 0 1", "7", "1"}, {"7", "7", "1"}, {"7", "-3 0", "1"},
		{"0", "7", "1"}, {"0", "-7 0 0", "1"}, {"0 0 5", "0 3", "0 1"}, {"0 0 5", "0 0 0 3", "0 0 1"}, {"-1 1", "1 -1", "-1 1"}, {"0 -1/2", "0", "0 1"},
		{"1 0 1", "1 0 1", "1 0 1"}, {"1 0 1", "-1 0 1", "1"}, {"-1 0 0 0 1", "1 0 1", "1 0 1"}, {"1/2 1/3", "1/4 1/6 0", "3/2 1"},
		{"1125899906842624 0 1", "1152921504606846976 2", "1"}, {"1 0 0 0 1", "1 1 1", "1"}, {"-2 0 1", "-2 -2 1 1", "-2 0 1"},
		{"816 1022 1", "2000 1", "1"}, // at 4096, the value of the first one is a multiple of that of the second one
	} {
		expectText(t, "Gcd("+c.p+"; "+c.q+")", show(roots.Gcd(poly(c.p), poly(c.q))), c.want)
		expectText(t, "Gcd("+c.q+"; "+c.p+")", show(roots.Gcd(poly(c.q), poly(c.p))), c.want)
	}
}

func TestGcd(t *testing.T) {
	s := source(2)
	for i := range 300 {
		p, q, r := s.poly(s.below(1+i%9)), s.poly(s.below(1+i%7)), s.poly(s.below(1+i%5))
		checkGcd(t, p, q)
		checkGcd(t, product(p, r), product(q, r))
		checkGcd(t, p, product(p, r))
	}
	common := s.other(15)
	checkGcd(t, product(common, s.other(25)), product(common, s.other(13)))
	checkGcd(t, s.other(api.MaxPoly), s.other(12))
}

func checkGcd(t *testing.T, p, q api.Poly) {
	t.Helper()
	what := "Gcd(" + show(p) + "; " + show(q) + ")"
	expectText(t, what, show(roots.Gcd(p, q)), modelOf(p).gcd(modelOf(q)).String())
}

// TestGcdOfLikelyValues takes polynomials whose values at a power of 2 have more
// common divisors than the polynomials: the more powers of 2 their constant terms
// have in common, the more.
func TestGcdOfLikelyValues(t *testing.T) {
	shared := poly("3 -5 1")
	for k := range 80 {
		even := rational.Int(1)
		for range k {
			even = rational.Mul(rational.Int(2), even)
		}
		p := product(shared, bernstein.Add(poly("0 1 1"), api.Poly{even}))
		q := product(shared, bernstein.Add(poly("0 -1 0 1"), api.Poly{rational.Mul(even, even)}))
		checkGcd(t, p, q)
		checkGcd(t, q, p)
	}
}

func TestSquareFreeOfExamples(t *testing.T) {
	for _, c := range []struct{ p, want string }{
		{"0 0 2 -4 2", "0 -1 1"}, {"-5", "1"}, {"3 0 0", "1"}, {"2 -2", "-1 1"}, {"-1 0 1", "-1 0 1"}, {"0 0 0 0 -7", "0 1"},
		{"-1/27 1/3 -1 1", "-1/3 1"}, {"1 0 2 0 1", "1 0 1"}, {"0 0 1/2 0", "0 1"}, {"4 0 -4 0 1", "-2 0 1"},
	} {
		free, e := roots.SquareFree(poly(c.p))
		expectError(t, "SquareFree("+c.p+")", e, api.OK)
		expectText(t, "SquareFree("+c.p+")", show(free), c.want)
	}
	for _, zero := range []string{"0", "0 0", "0 0 0 0"} {
		free, e := roots.SquareFree(poly(zero))
		expectError(t, "SquareFree of 0", e, api.ErrZero)
		if free != nil {
			t.Errorf("SquareFree(%s) has a result", zero)
		}
	}
}

// someFactors returns 4 n polynomials with and without multiple roots, which are
// products of some whose degree is less than the limit.
func (s *source) someFactors(n, limit int) []api.Poly {
	var out []api.Poly
	for range n {
		p := s.other(s.below(limit))
		q := s.rooted(s.below(1 + limit/2))
		out = append(out, p, elevated(q, s.below(4)), product(p, q, q), product(power(p, 2), q))
	}
	return out
}

func TestSquareFree(t *testing.T) {
	s := source(3)
	for _, p := range append(s.someFactors(40, 9), s.other(api.MaxPoly), power(poly("-1 3"), api.MaxPoly), power(poly("1 1 1"), 20)) {
		free, e := roots.SquareFree(p)
		expectError(t, "SquareFree("+show(p)+")", e, api.OK)
		expectText(t, "SquareFree("+show(p)+")", show(free), modelOf(p).squareFree().String())
	}
}

// P6.2

func TestSturmOfExamples(t *testing.T) {
	for _, c := range []struct {
		p    string
		want []string
	}{
		{"-4 0 2", []string{"-2 0 1", "0 2", "2"}}, {"3", []string{"1"}}, {"-3 0 0", []string{"1"}}, {"0 -2", []string{"0 1", "1"}},
		{"0 -1 0 1", []string{"0 -1 0 1", "-1 0 3", "0 2/3", "1"}}, {"1 0 1", []string{"1 0 1", "0 2", "-1"}},
		{"0 0 0 5", []string{"0 1", "1"}}, {"1 0 0 0 1", []string{"1 0 0 0 1", "0 0 0 4", "-1"}},
		{"-1 0 0 0 0 1", []string{"-1 0 0 0 0 1", "0 0 0 0 5", "1"}}, {"1 1 0 0 1", []string{"1 1 0 0 1", "1 0 0 4", "-1 -3/4", "229/27"}},
	} {
		checkSequence(t, poly(c.p), c.want)
	}
	for _, zero := range []string{"0", "0 0", "0 0 0 0"} {
		l, e := roots.Sturm(poly(zero))
		expectError(t, "Sturm of 0", e, api.ErrZero)
		if len(l) > 0 {
			t.Errorf("Sturm(%s) has results", zero)
		}
	}
}

func checkSequence(t *testing.T, p api.Poly, want []string) {
	t.Helper()
	l, e := roots.Sturm(p)
	what := "Sturm(" + show(p) + ")"
	expectError(t, what, e, api.OK)
	if len(l) != len(want) {
		t.Fatalf("%s has %d elements; expected %d", what, len(l), len(want))
	}
	for i, q := range l {
		expectText(t, what, show(q), want[i])
	}
}

func TestSturm(t *testing.T) {
	s := source(4)
	for _, p := range append(s.someFactors(20, 8), s.other(16)) {
		var want []string
		for _, m := range modelOf(p).sturm() {
			want = append(want, m.String())
		}
		checkSequence(t, p, want)
	}
}

// TestLongSturm takes the greatest degree. The numbers are so long there that they are
// compared modulo a prime.
func TestLongSturm(t *testing.T) {
	s := source(5)
	p := make(api.Poly, api.MaxPoly+1)
	for i := range p {
		p[i] = rational.Int(int64(s.below(19) - 9))
	}
	l, e := roots.Sturm(p)
	expectError(t, "Sturm", e, api.OK)
	if len(l) != api.MaxPoly+1 {
		t.Fatalf("%d elements; expected %d", len(l), api.MaxPoly+1)
	}
	free, _ := roots.SquareFree(p)
	expectText(t, "the first element", show(l[0]), show(free))
	expectText(t, "the second element", show(l[1]), show(bernstein.Diff(free)))
	for i := 2; i < len(l); i++ {
		if len(l[i]) != len(l[i-1])-1 {
			t.Fatalf("element %d has the formal degree %d", i, len(l[i])-1)
		}
		if rest := restModulo(residues(l[i-2]), residues(l[i-1])); !slices.Equal(residues(bernstein.Scale(rational.Int(-1), l[i])), rest) {
			t.Errorf("element %d is not the rest with the opposite sign", i)
		}
	}
}

const prime = 2147483647

// residues returns the coefficients of the powers modulo the prime.
func residues(p api.Poly) []int64 {
	modulo := func(limbs []uint32) int64 {
		var rest uint64
		for _, limb := range slices.Backward(limbs) {
			rest = (rest<<32 | uint64(limb)) % prime
		}
		return int64(rest)
	}
	var out []int64
	for _, r := range bernstein.ToPowers(p) {
		n := modulo(r.Num)
		if r.Neg {
			n = (prime - n) % prime
		}
		if len(r.Den) > 0 {
			n = n * inverse(modulo(r.Den)) % prime
		}
		out = append(out, n)
	}
	return out
}

func inverse(n int64) int64 {
	return new(big.Int).ModInverse(big.NewInt(n), big.NewInt(prime)).Int64()
}

// restModulo returns the rest of a division modulo the prime, one coefficient less
// than g.
func restModulo(f, g []int64) []int64 {
	rest := slices.Clone(f)
	by := inverse(g[len(g)-1])
	for k := len(f) - len(g); k >= 0; k-- {
		x := rest[k+len(g)-1] * by % prime
		for i, y := range g {
			rest[k+i] = (rest[k+i] + (prime-x)*y) % prime
		}
	}
	return rest[:len(g)-1]
}
