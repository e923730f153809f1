package span_test

import (
	"math/big"
	"testing"

	"brepkernel/api"
	"brepkernel/span"
)

// P3.2

// edges returns spans on all sides of 0, also points and those that end at 0.
func edges() []pair {
	ends := []*big.Rat{num("-3"), num("-1/2"), num("0"), num("2/3"), num("2"), num("4/73786976294838206463")}
	var out []pair
	for _, x := range ends {
		for _, y := range ends {
			if x.Cmp(y) <= 0 {
				out = append(out, pair{x, y})
			}
		}
	}
	return out
}

// checkPair compares all operations on two spans with those on their ends. The
// operations are monotonic in each argument: the least results are at ends.
func checkPair(t *testing.T, a, b pair) {
	t.Helper()
	s, r := a.span(), b.span()
	what := "(" + text(s) + "; " + text(r) + ")"
	ends := func(of func(x, y *big.Rat) *big.Rat) pair {
		return hull(of(a.low, b.low), of(a.low, b.high), of(a.high, b.low), of(a.high, b.high))
	}
	expect(t, "Add"+what, span.Add(s, r), ends(plus))
	expect(t, "Sub"+what, span.Sub(s, r), ends(minus))
	expect(t, "Mul"+what, span.Mul(s, r), ends(times))
	expect(t, "Neg"+what, span.Neg(s), hull(new(big.Rat).Neg(a.low), new(big.Rat).Neg(a.high)))
	squares := hull(times(a.low, a.low), times(a.high, a.high))
	if a.has(new(big.Rat)) {
		squares.low = new(big.Rat)
	}
	expect(t, "Sqr"+what, span.Sqr(s), squares)
	q, e := span.Quo(s, r)
	if b.has(new(big.Rat)) {
		if e != api.ErrZero || !same(q, api.Span{}) {
			t.Fatalf("Quo%s = %v, %d", what, q, e)
		}
		return
	}
	expect(t, "Quo"+what, q, ends(over))
	if e != api.OK {
		t.Fatalf("Quo%s: error %d", what, e)
	}
}

func TestArithmeticAtEdges(t *testing.T) {
	for _, a := range edges() {
		for _, b := range edges() {
			checkPair(t, a, b)
		}
	}
}

func TestArithmetic(t *testing.T) {
	s := source(5)
	for range 3000 {
		checkPair(t, s.pair(), s.pair())
	}
}

func TestArithmeticOfExamples(t *testing.T) {
	for _, c := range []struct {
		name, want string
		got        api.Span
	}{
		{"Mul", "-4 8", span.Mul(of("-1", "2"), of("3", "4"))},
		{"Sqr", "0 4", span.Sqr(of("-1", "2"))},
		{"Sqr", "1 4", span.Sqr(of("-2", "-1"))},
		{"Sqr", "0 0", span.Sqr(api.Span{})},
	} {
		if text(c.got) != c.want {
			t.Errorf("%s: %s; expected %s", c.name, text(c.got), c.want)
		}
	}
}

// Consequences: what is computed with numbers of the arguments is in the result,
// and narrower arguments have narrower results.

func TestResultsContain(t *testing.T) {
	s := source(6)
	for range 500 {
		a, b := s.pair(), s.pair()
		q, e := span.Quo(a.span(), b.span())
		for _, x := range a.some() {
			if !span.Has(span.Sqr(a.span()), rat(times(x, x))) {
				t.Fatalf("Sqr(%s) does not have that of %s", text(a.span()), x)
			}
			for _, y := range b.some() {
				if !span.Has(span.Add(a.span(), b.span()), rat(plus(x, y))) || !span.Has(span.Sub(a.span(), b.span()), rat(minus(x, y))) ||
					!span.Has(span.Mul(a.span(), b.span()), rat(times(x, y))) || e == api.OK && !span.Has(q, rat(over(x, y))) {
					t.Fatalf("%s; %s: no result of %s and %s", text(a.span()), text(b.span()), x, y)
				}
			}
		}
	}
}

func TestNarrowerArguments(t *testing.T) {
	s := source(7)
	for range 500 {
		a, b := s.pair().span(), s.pair().span()
		half, _ := span.Halves(a)
		_, other := span.Halves(b)
		inside := func(name string, narrow, wide api.Span) {
			if !span.Inside(narrow, wide) {
				t.Fatalf("%s of %s; %s: not inside", name, text(a), text(b))
			}
		}
		inside("Add", span.Add(half, other), span.Add(a, b))
		inside("Sub", span.Sub(half, other), span.Sub(a, b))
		inside("Mul", span.Mul(half, other), span.Mul(a, b))
		inside("Sqr", span.Sqr(half), span.Sqr(a))
		inside("Neg", span.Neg(half), span.Neg(a))
		if wide, e := span.Quo(a, b); e == api.OK {
			narrow, _ := span.Quo(half, other)
			inside("Quo", narrow, wide)
		}
		if wide, e := span.Root(span.Sqr(a), 9); e == api.OK {
			narrow, _ := span.Root(span.Sqr(half), 9)
			inside("Root", narrow, wide)
		}
	}
}

// P3.5

func TestDet2(t *testing.T) {
	s := source(8)
	for range 500 {
		m := [2][2]api.Span{{s.pair().span(), s.pair().span()}, {s.pair().span(), s.pair().span()}}
		want := span.Sub(span.Mul(m[0][0], m[1][1]), span.Mul(m[0][1], m[1][0]))
		if got := span.Det2(m); !same(got, want) {
			t.Fatalf("Det2(%v) = %s; expected %s", m, text(got), text(want))
		}
	}
}

// TestDet3 compares with the promise, word for word.
func TestDet3(t *testing.T) {
	s := source(9)
	for range 500 {
		var m [3][3]api.Span
		for i := range m {
			for j := range m[i] {
				m[i][j] = s.pair().span()
			}
		}
		a := span.Det2([2][2]api.Span{{m[1][1], m[1][2]}, {m[2][1], m[2][2]}})
		b := span.Det2([2][2]api.Span{{m[1][0], m[1][2]}, {m[2][0], m[2][2]}})
		c := span.Det2([2][2]api.Span{{m[1][0], m[1][1]}, {m[2][0], m[2][1]}})
		want := span.Add(span.Sub(span.Mul(m[0][0], a), span.Mul(m[0][1], b)), span.Mul(m[0][2], c))
		if got := span.Det3(m); !same(got, want) {
			t.Fatalf("Det3(%v) = %s; expected %s", m, text(got), text(want))
		}
	}
}

// TestDet3OfNumbers compares with the rule of Sarrus.
func TestDet3OfNumbers(t *testing.T) {
	s := source(10)
	for range 500 {
		var x [3][3]*big.Rat
		var m [3][3]api.Span
		for i := range m {
			for j := range m[i] {
				x[i][j] = s.number()
				m[i][j] = pair{x[i][j], x[i][j]}.span()
			}
		}
		want := new(big.Rat)
		for i := range 3 {
			j, k := (i+1)%3, (i+2)%3
			want = plus(want, times(x[0][i], times(x[1][j], x[2][k])))
			want = minus(want, times(x[0][k], times(x[1][j], x[2][i])))
		}
		expect(t, "Det3", span.Det3(m), pair{want, want})
	}
}
