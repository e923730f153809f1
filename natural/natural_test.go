package natural_test

import (
	"math"
	"math/big"
	"slices"
	"strings"
	"testing"

	"brepkernel/api"
	"brepkernel/natural"
)

const top = 1<<32 - 1 // the greatest limb

// source is a generator of numbers that are the same in every run.
type source uint64

func (s *source) next() uint64 {
	*s = *s*6364136223846793005 + 1442695040888963407
	x := uint64(*s)
	return (x ^ x>>29) * 0xbf58476d1ce4e5b9 >> 7
}

// limb prefers the limbs at which carries, borrows and guesses go wrong.
func (s *source) limb() uint32 {
	switch s.next() % 8 {
	case 0:
		return 0
	case 1:
		return top
	case 2:
		return 1 << 31
	case 3:
		return 1
	}
	return uint32(s.next())
}

// magnitude returns a magnitude of n limbs.
func (s *source) magnitude(n int) []uint32 {
	var out []uint32
	for range n {
		out = append(out, s.limb())
	}
	if n > 0 && out[n-1] == 0 {
		out[n-1] = 1 + uint32(s.next()%top)
	}
	return out
}

// someMagnitude returns one of less than n limbs.
func (s *source) someMagnitude(n int) []uint32 {
	return s.magnitude(int(s.next() % uint64(n)))
}

// value returns the number for which limbs stand.
func value(a []uint32) *big.Int {
	n := new(big.Int)
	for i := len(a) - 1; i >= 0; i-- {
		n.Lsh(n, 32)
		n.Add(n, new(big.Int).SetUint64(uint64(a[i])))
	}
	return n
}

// limbs returns the magnitude of n.
func limbs(n *big.Int) []uint32 {
	var out []uint32
	for rest := new(big.Int).Set(n); rest.Sign() > 0; rest.Rsh(rest, 32) {
		out = append(out, uint32(new(big.Int).And(rest, big.NewInt(top)).Uint64()))
	}
	return out
}

func expect(t *testing.T, what string, got []uint32, want *big.Int) {
	t.Helper()
	if !slices.Equal(got, limbs(want)) {
		t.Fatalf("%s = %v; expected %v", what, got, limbs(want))
	}
}

// P1.1

func TestValid(t *testing.T) {
	for _, a := range [][]uint32{nil, {}, {1}, {0, 1}, {0, 0, 0, top}} {
		if !natural.Valid(a) {
			t.Errorf("Valid(%v) is false", a)
		}
	}
	for _, a := range [][]uint32{{0}, {0, 0}, {1, 0}, {top, top, 0}, {1, 0, 0}} {
		if natural.Valid(a) {
			t.Errorf("Valid(%v) is true", a)
		}
	}
}

func TestOf(t *testing.T) {
	for _, c := range []struct {
		n    uint64
		want []uint32
	}{
		{0, nil}, {1, []uint32{1}}, {top, []uint32{top}}, {1 << 32, []uint32{0, 1}},
		{1<<32 + 5, []uint32{5, 1}}, {1 << 63, []uint32{0, 1 << 31}}, {math.MaxUint64, []uint32{top, top}},
	} {
		if got := natural.Of(c.n); !slices.Equal(got, c.want) {
			t.Errorf("Of(%d) = %v", c.n, got)
		}
	}
}

func TestCmp(t *testing.T) {
	ascending := [][]uint32{nil, {1}, {2}, {top}, {0, 1}, {1, 1}, {top, 1}, {0, 2}, {1, 2}, {top, top}, {0, 0, 1}, {5, 0, 1}, {0, 1, 1}}
	for i, a := range ascending {
		for j, b := range ascending {
			want := 0
			if i < j {
				want = -1
			} else if i > j {
				want = 1
			}
			if got := natural.Cmp(a, b); got != want {
				t.Errorf("Cmp(%v, %v) = %d; expected %d", a, b, got, want)
			}
		}
	}
	if natural.Cmp(nil, []uint32{}) != 0 {
		t.Errorf("nil and the empty list differ")
	}
}

func TestBits(t *testing.T) {
	for _, c := range []struct {
		a    []uint32
		want int
	}{
		{nil, 0}, {[]uint32{}, 0}, {[]uint32{1}, 1}, {[]uint32{2}, 2}, {[]uint32{3}, 2}, {[]uint32{1 << 31}, 32},
		{[]uint32{top}, 32}, {[]uint32{0, 1}, 33}, {[]uint32{top, 7}, 35}, {[]uint32{0, 0, 1 << 31}, 96},
	} {
		if got := natural.Bits(c.a); got != c.want {
			t.Errorf("Bits(%v) = %d; expected %d", c.a, got, c.want)
		}
	}
}

// P1.2

func TestAdd(t *testing.T) {
	for _, c := range []struct{ a, b, want []uint32 }{
		{nil, nil, nil},
		{nil, []uint32{7}, []uint32{7}},
		{[]uint32{0, 3}, nil, []uint32{0, 3}},
		{[]uint32{top}, []uint32{1}, []uint32{0, 1}},
		{[]uint32{top, top, top}, []uint32{1}, []uint32{0, 0, 0, 1}},
		{[]uint32{1}, []uint32{top, top, 5}, []uint32{0, 0, 6}},
		{[]uint32{top, top}, []uint32{top, top}, []uint32{top - 1, top, 1}},
	} {
		if got := natural.Add(c.a, c.b); !slices.Equal(got, c.want) {
			t.Errorf("Add(%v, %v) = %v; expected %v", c.a, c.b, got, c.want)
		}
	}
}

func TestSub(t *testing.T) {
	for _, c := range []struct {
		a, b, want []uint32
		e          api.Errno
	}{
		{nil, nil, nil, api.OK},
		{[]uint32{9}, nil, []uint32{9}, api.OK},
		{[]uint32{9, 4}, []uint32{9, 4}, nil, api.OK},
		{[]uint32{9, 4}, []uint32{8, 4}, []uint32{1}, api.OK},
		{[]uint32{0, 0, 0, 1}, []uint32{1}, []uint32{top, top, top}, api.OK},
		{[]uint32{0, 0, 2}, []uint32{1, 0, 1}, []uint32{top, top}, api.OK},
		{[]uint32{0, 0, 0, 2}, []uint32{0, top}, []uint32{0, 1, top, 1}, api.OK},
		{nil, []uint32{1}, nil, api.ErrRange},
		{[]uint32{6}, []uint32{7}, nil, api.ErrRange},
		{[]uint32{top}, []uint32{0, 1}, nil, api.ErrRange},
		{[]uint32{top, 1}, []uint32{0, 2}, nil, api.ErrRange},
	} {
		got, e := natural.Sub(c.a, c.b)
		if !slices.Equal(got, c.want) || e != c.e {
			t.Errorf("Sub(%v, %v) = %v, %d; expected %v, %d", c.a, c.b, got, e, c.want, c.e)
		}
	}
}

func TestMul(t *testing.T) {
	for _, c := range []struct{ a, b, want []uint32 }{
		{nil, nil, nil},
		{nil, []uint32{1, 2}, nil},
		{[]uint32{1, 2}, nil, nil},
		{[]uint32{1}, []uint32{0, 5}, []uint32{0, 5}},
		{[]uint32{top}, []uint32{top}, []uint32{1, top - 1}},
		{[]uint32{top, top}, []uint32{top, top}, []uint32{1, 0, top - 1, top}},
		{[]uint32{0, 1}, []uint32{0, 0, 1}, []uint32{0, 0, 0, 1}},
	} {
		if got := natural.Mul(c.a, c.b); !slices.Equal(got, c.want) {
			t.Errorf("Mul(%v, %v) = %v; expected %v", c.a, c.b, got, c.want)
		}
	}
}

func TestDiv(t *testing.T) {
	for _, c := range []struct {
		a, b, q, r []uint32
		e          api.Errno
	}{
		{[]uint32{0, 0, 1}, []uint32{3}, []uint32{0x55555555, 0x55555555}, []uint32{1}, api.OK},
		{nil, []uint32{3}, nil, nil, api.OK},
		{[]uint32{2}, []uint32{3}, nil, []uint32{2}, api.OK},
		{[]uint32{5, 6, 7}, []uint32{0, 7, 7}, nil, []uint32{5, 6, 7}, api.OK},
		{[]uint32{5, 6, 7}, []uint32{5, 6, 7}, []uint32{1}, nil, api.OK},
		{[]uint32{5, 6, 7}, []uint32{1}, []uint32{5, 6, 7}, nil, api.OK},
		{[]uint32{top, top}, []uint32{top}, []uint32{1, 1}, nil, api.OK},
		{[]uint32{0, 0, 0, 1}, []uint32{0, 0, 1}, []uint32{0, 1}, nil, api.OK},
		// The highest limbs are equal, so that a guess does not fit in a limb.
		{[]uint32{0, 0, 0, 1 << 31}, []uint32{1, 0, 1 << 31}, []uint32{top}, []uint32{1, top, 1<<31 - 1}, api.OK},
		// A guess from the highest limbs is too large, and the divisor has to be added back.
		{[]uint32{3, 0, 1 << 31}, []uint32{1, 0, 1 << 29}, []uint32{3}, []uint32{0, 0, 1 << 29}, api.OK},
		{[]uint32{0, 0, 1 << 31, 1<<31 - 1}, []uint32{1, 0, 1 << 31}, []uint32{top - 1}, []uint32{2, top, 1<<31 - 1}, api.OK},
		{nil, nil, nil, nil, api.ErrZero},
		{[]uint32{1}, nil, nil, nil, api.ErrZero},
		{[]uint32{1, 2, 3}, []uint32{}, nil, nil, api.ErrZero},
	} {
		q, r, e := natural.Div(c.a, c.b)
		if !slices.Equal(q, c.q) || !slices.Equal(r, c.r) || e != c.e {
			t.Errorf("Div(%v, %v) = %v, %v, %d; expected %v, %v, %d", c.a, c.b, q, r, e, c.q, c.r, c.e)
		}
	}
}

func TestGcd(t *testing.T) {
	long := []uint32{top, 0, 12, 1 << 31}
	for _, c := range []struct{ a, b, want []uint32 }{
		{nil, nil, nil},
		{nil, []uint32{6}, []uint32{6}},
		{[]uint32{6}, nil, []uint32{6}},
		{nil, long, long},
		{long, nil, long},
		{long, long, long},
		{long, []uint32{1}, []uint32{1}},
		{[]uint32{12}, []uint32{18}, []uint32{6}},
		{[]uint32{35}, []uint32{18}, []uint32{1}},
		{[]uint32{0, 12}, []uint32{18}, []uint32{6}},
		{[]uint32{0, 12}, []uint32{0, 18}, []uint32{0, 6}},
		{[]uint32{0, 0, 0, 12}, []uint32{0, 0, 18}, []uint32{0, 0, 6}},
		{[]uint32{0, 0, 0, 0, 1}, []uint32{0, 1 << 7}, []uint32{0, 1 << 7}},
	} {
		if got := natural.Gcd(c.a, c.b); !slices.Equal(got, c.want) {
			t.Errorf("Gcd(%v, %v) = %v; expected %v", c.a, c.b, got, c.want)
		}
	}
}

// checkPair compares all the operations on two numbers with those of math/big.
func checkPair(t *testing.T, a, b []uint32) {
	t.Helper()
	x, y := value(a), value(b)
	expect(t, "Add", natural.Add(a, b), new(big.Int).Add(x, y))
	expect(t, "Mul", natural.Mul(a, b), new(big.Int).Mul(x, y))
	expect(t, "Gcd", natural.Gcd(a, b), new(big.Int).GCD(nil, nil, x, y))
	if got := natural.Cmp(a, b); got != x.Cmp(y) {
		t.Fatalf("Cmp(%v, %v) = %d", a, b, got)
	}
	d, e := natural.Sub(a, b)
	if x.Cmp(y) < 0 {
		if len(d) != 0 || e != api.ErrRange {
			t.Fatalf("Sub(%v, %v) = %v, %d", a, b, d, e)
		}
	} else if expect(t, "Sub", d, new(big.Int).Sub(x, y)); e != api.OK {
		t.Fatalf("Sub(%v, %v): error %d", a, b, e)
	}
	q, r, e := natural.Div(a, b)
	if y.Sign() == 0 {
		if len(q) != 0 || len(r) != 0 || e != api.ErrZero {
			t.Fatalf("Div(%v, 0) = %v, %v, %d", a, q, r, e)
		}
		return
	}
	quo, rem := new(big.Int).QuoRem(x, y, new(big.Int))
	expect(t, "the quotient", q, quo)
	expect(t, "the rest", r, rem)
	if e != api.OK {
		t.Fatalf("Div(%v, %v): error %d", a, b, e)
	}
}

func TestPairs(t *testing.T) {
	s := source(1)
	for range 4000 {
		a, b, c := s.someMagnitude(12), s.someMagnitude(12), s.someMagnitude(6)
		checkPair(t, a, b)
		checkPair(t, natural.Mul(a, c), natural.Mul(b, c))
		// Quotients at and around a product, where guesses are most often wrong.
		product := natural.Mul(a, b)
		checkPair(t, product, b)
		checkPair(t, natural.Add(product, []uint32{1}), b)
		if less, e := natural.Sub(product, []uint32{1}); e == api.OK {
			checkPair(t, less, b)
		}
	}
	for range 60 {
		checkPair(t, s.someMagnitude(300), s.someMagnitude(300))
	}
}

// All magnitudes of up to four limbs that are extreme.
func TestExtremePairs(t *testing.T) {
	edges := []uint32{0, 1, 1<<31 - 1, 1 << 31, top}
	all := [][]uint32{nil}
	for low := 0; low < len(all); low++ {
		if len(all[low]) < 3 {
			for _, x := range edges {
				all = append(all, append([]uint32{x}, all[low]...))
			}
		}
	}
	all = slices.DeleteFunc(all, func(a []uint32) bool { return !natural.Valid(a) })
	for _, a := range all {
		for _, b := range all {
			checkPair(t, a, b)
			checkPair(t, append([]uint32{top}, a...), b)
		}
	}
}

// Numbers that end in many zero bits, which are taken out separately.
func TestPowersOfTwo(t *testing.T) {
	s := source(6)
	for _, far := range []uint{0, 1, 31, 32, 33, 64, 100, 9 * api.MaxBits} {
		for _, near := range []uint{0, 1, 31, 32, 40, 64, 96, 10 * api.MaxBits} {
			for range 8 {
				a, b := value(s.someMagnitude(5)), value(s.someMagnitude(5))
				checkPair(t, limbs(a.Lsh(a, far)), limbs(b.Lsh(b, near)))
				checkPair(t, limbs(a), limbs(new(big.Int).Lsh(big.NewInt(1), near)))
			}
		}
	}
}

// Numbers for which the Euclidean algorithm takes the most steps, and the
// largest ones.
func TestGcdOfSequences(t *testing.T) {
	s := source(2)
	for range 40 {
		g := s.magnitude(1 + int(s.next()%4))
		a, b := natural.Add(g, nil), []uint32(nil)
		want := natural.Add(g, nil)
		for n := range 600 {
			times := natural.Of(1)
			if s.next()%16 == 0 {
				times = natural.Of(1 + s.next()>>(s.next()%64))
			}
			a, b = natural.Add(natural.Mul(a, times), b), a
			if n%50 == 0 {
				if got := natural.Gcd(a, b); !slices.Equal(got, want) {
					t.Fatalf("Gcd(%v, %v) = %v; expected %v", a, b, got, want)
				}
			}
		}
	}
}

// P1.3

func TestShift(t *testing.T) {
	a := []uint32{1<<31 + 5, 0, 3}
	for _, c := range []struct {
		n    int
		want []uint32
	}{
		{0, a}, {1, []uint32{10, 1, 6}}, {31, []uint32{1 << 31, 1<<30 + 2, 1 << 31, 1}}, {32, []uint32{0, 1<<31 + 5, 0, 3}},
		{-1, []uint32{1<<30 + 2, 1 << 31, 1}}, {-2, []uint32{1<<29 + 1, 3 << 30}}, {-32, []uint32{0, 3}}, {-64, []uint32{3}},
		{-65, []uint32{1}}, {-66, nil}, {-96, nil}, {-1000, nil}, {math.MinInt + 1, nil}, {math.MinInt, nil},
	} {
		if got, e := natural.Shift(a, c.n); !slices.Equal(got, c.want) || e != api.OK {
			t.Errorf("Shift by %d = %v, %d; expected %v", c.n, got, e, c.want)
		}
	}
	if got, e := natural.Shift([]uint32{5}, -1); !slices.Equal(got, []uint32{2}) || e != api.OK {
		t.Errorf("Shift(5, -1) = %v, %d", got, e)
	}
}

func TestShiftOfZero(t *testing.T) {
	for _, n := range []int{0, 1, 32, 8 * api.MaxBits, -1, -32, math.MinInt} {
		if got, e := natural.Shift(nil, n); len(got) != 0 || e != api.OK {
			t.Errorf("Shift(0, %d) = %v, %d", n, got, e)
		}
	}
}

func TestShiftAtLimit(t *testing.T) {
	got, e := natural.Shift([]uint32{5}, 8*api.MaxBits)
	want := append(make([]uint32, 8*api.MaxBits/32), 5)
	if !slices.Equal(got, want) || e != api.OK {
		t.Errorf("the farthest shift: %d limbs, error %d", len(got), e)
	}
	for _, n := range []int{8*api.MaxBits + 1, math.MaxInt} {
		for _, a := range [][]uint32{nil, {5}} {
			if got, e := natural.Shift(a, n); len(got) != 0 || e != api.ErrSize {
				t.Errorf("Shift(%v, %d) = %d limbs, error %d", a, n, len(got), e)
			}
		}
	}
}

func TestManyShifts(t *testing.T) {
	s := source(3)
	for range 4000 {
		a, n := s.someMagnitude(8), int(s.next()%300)
		up, e := natural.Shift(a, n)
		if e != api.OK {
			t.Fatalf("Shift by %d: error %d", n, e)
		}
		expect(t, "Shift up", up, new(big.Int).Lsh(value(a), uint(n)))
		down, e := natural.Shift(a, -n)
		if e != api.OK {
			t.Fatalf("Shift by %d: error %d", -n, e)
		}
		expect(t, "Shift down", down, new(big.Int).Rsh(value(a), uint(n)))
		if got := natural.Bits(a); got != value(a).BitLen() {
			t.Fatalf("Bits(%v) = %d", a, got)
		}
	}
}

// P1.4

func TestText(t *testing.T) {
	for _, c := range []struct {
		a    []uint32
		want string
	}{
		{nil, "0"}, {[]uint32{}, "0"}, {[]uint32{7}, "7"}, {[]uint32{999_999_999}, "999999999"}, {[]uint32{1_000_000_000}, "1000000000"},
		{[]uint32{1_000_000_007}, "1000000007"}, {[]uint32{top}, "4294967295"}, {[]uint32{0, 1}, "4294967296"},
		{[]uint32{0, 0, 0, 1}, "79228162514264337593543950336"}, {limbs(new(big.Int).Exp(big.NewInt(10), big.NewInt(40), nil)), "1" + strings.Repeat("0", 40)},
	} {
		if got := natural.Text(c.a); got != c.want {
			t.Errorf("Text(%v) = %s; expected %s", c.a, got, c.want)
		}
	}
}

func TestParse(t *testing.T) {
	for _, c := range []struct {
		s    string
		want []uint32
	}{
		{"0", nil}, {"00", nil}, {"0000000000000000000000", nil}, {"7", []uint32{7}}, {"0007", []uint32{7}},
		{"999999999", []uint32{999_999_999}}, {"1000000000", []uint32{1_000_000_000}}, {"4294967296", []uint32{0, 1}},
		{"00000000000000000004294967295", []uint32{top}}, {"18446744073709551616", []uint32{0, 0, 1}},
	} {
		if got, e := natural.Parse(c.s); !slices.Equal(got, c.want) || e != api.OK {
			t.Errorf("Parse(%q) = %v, %d; expected %v", c.s, got, e, c.want)
		}
	}
}

func TestParseErrors(t *testing.T) {
	most := api.MaxText
	for _, c := range []struct {
		s string
		e api.Errno
	}{
		{"", api.ErrText}, {"-1", api.ErrText}, {"+1", api.ErrText}, {" 1", api.ErrText}, {"1 ", api.ErrText}, {"1_0", api.ErrText},
		{"12a45", api.ErrText}, {"0x1", api.ErrText}, {"1.0", api.ErrText}, {"1\x00", api.ErrText}, {"\u0663", api.ErrText},
		{"/", api.ErrText}, {":", api.ErrText}, {"123456789:", api.ErrText}, {"/123456789", api.ErrText},
		{strings.Repeat("9", most-1) + "x", api.ErrText}, {strings.Repeat("9", most) + "x", api.ErrSize},
		{strings.Repeat("x", most), api.ErrText}, {strings.Repeat("x", most+1), api.ErrSize},
		{strings.Repeat("1", most+1), api.ErrSize}, {strings.Repeat("0", most+1), api.ErrSize},
	} {
		if got, e := natural.Parse(c.s); len(got) != 0 || e != c.e {
			t.Errorf("Parse(%.12q of %d bytes) = %v, %d; expected error %d", c.s, len(c.s), got, e, c.e)
		}
	}
}

func TestLongestText(t *testing.T) {
	for _, s := range []string{strings.Repeat("9", api.MaxText), "1" + strings.Repeat("0", api.MaxText-1), strings.Repeat("0", api.MaxText-1) + "1"} {
		want, _ := new(big.Int).SetString(s, 10)
		got, e := natural.Parse(s)
		if e != api.OK {
			t.Fatalf("Parse of %d digits: error %d", len(s), e)
		}
		expect(t, "Parse", got, want)
		if natural.Text(got) != want.String() {
			t.Errorf("Text of %d digits", len(s))
		}
	}
}

// Consequences

func TestTextAndBack(t *testing.T) {
	s := source(4)
	for range 2000 {
		a := s.someMagnitude(20)
		text := natural.Text(a)
		if want := value(a).String(); text != want {
			t.Fatalf("Text(%v) = %s; expected %s", a, text, want)
		}
		for _, zeros := range []string{"", "0", "00000000", "000000000", "0000000000"} {
			if back, e := natural.Parse(zeros + text); !slices.Equal(back, a) || e != api.OK {
				t.Fatalf("Parse(%q) = %v, %d; expected %v", zeros+text, back, e, a)
			}
		}
	}
}

func TestLaws(t *testing.T) {
	s := source(5)
	for range 2000 {
		a, b, c := s.someMagnitude(7), s.someMagnitude(7), s.someMagnitude(7)
		for _, law := range []struct {
			name        string
			left, right []uint32
		}{
			{"Add commutes", natural.Add(a, b), natural.Add(b, a)},
			{"Mul commutes", natural.Mul(a, b), natural.Mul(b, a)},
			{"Add associates", natural.Add(natural.Add(a, b), c), natural.Add(a, natural.Add(b, c))},
			{"Mul associates", natural.Mul(natural.Mul(a, b), c), natural.Mul(a, natural.Mul(b, c))},
			{"Mul distributes", natural.Mul(a, natural.Add(b, c)), natural.Add(natural.Mul(a, b), natural.Mul(a, c))},
		} {
			if !slices.Equal(law.left, law.right) {
				t.Fatalf("%s, but not for %v, %v, %v", law.name, a, b, c)
			}
		}
	}
}
