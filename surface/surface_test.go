package surface_test

import (
	"math/big"
	"slices"
	"testing"

	"brepkernel/api"
	"brepkernel/knots"
	"brepkernel/rational"
	"brepkernel/surface"
)

// P12.1

func TestCheckOfValidSurfaces(t *testing.T) {
	for _, s := range append(surfaces(), fullSurfaces()...) {
		expectError(t, "Check of "+showSurface(s), surface.Check(s), api.OK)
	}
	s := source(3)
	full := s.surface(sideOf(6, api.MaxPoles), sideOf(1, api.MaxPoles), s.simple)
	expectError(t, "Check of a surface with the most poles", surface.Check(full), api.OK)
}

// wrongNumbers returns some numbers that are not valid.
func wrongNumbers() []api.Rat {
	return []api.Rat{
		{Neg: true}, {Num: []uint32{0}}, {Num: []uint32{5, 0, 0}}, {Den: []uint32{0}}, {Num: []uint32{1}, Den: []uint32{0}},
		{Num: []uint32{1}, Den: []uint32{0, 0, 0, 0}}, {Neg: true, Num: []uint32{0, 0, 0}, Den: []uint32{0, 0, 0}},
		{Num: []uint32{1}, Den: []uint32{1}}, {Den: []uint32{7}}, {Num: []uint32{6}, Den: []uint32{4}}, {Num: []uint32{0, 0, 6}, Den: []uint32{0, 4, 0}},
		{Num: []uint32{1, 2, 3, 0}, Den: []uint32{0, 0, 0, 0, 0}}, {Num: []uint32{0, 0, 0, 0, 0, 1, 0}, Den: []uint32{0, 0, 1, 0}},
	}
}

func TestCheckOfWrongNumbers(t *testing.T) {
	for i := range numbersOf(hill()) {
		for _, r := range wrongNumbers() {
			s := hill()
			*numbersOf(s)[i] = r
			expectError(t, "Check with a wrong number", surface.Check(s), api.ErrArg)
		}
	}
}

// fault makes a surface wrong.
type fault struct {
	with func(s *api.Surface)
	want api.Errno
}

// longBits returns a number with one bit too many.
func longBits() api.Rat {
	return rat(new(big.Rat).SetInt(new(big.Int).Lsh(big.NewInt(1), api.MaxBits)))
}

// faults returns some, in the order in which Check finds them.
func faults() []fault {
	last := func(s *api.Surface) *api.Pole {
		if len(s.Poles) == 0 {
			s.Poles = hill().Poles
		}
		row := s.Poles[len(s.Poles)-1]
		return &row[len(row)-1]
	}
	return []fault{
		{func(s *api.Surface) { last(s).W = api.Rat{Num: []uint32{2}, Den: []uint32{2}} }, api.ErrArg},
		{func(s *api.Surface) { last(s).P[2] = api.Rat{Neg: true} }, api.ErrArg},
		{func(s *api.Surface) { s.KnotsV = append(slices.Clone(s.KnotsV), api.Rat{Num: []uint32{0}}) }, api.ErrArg},
		{func(s *api.Surface) { s.KnotsU = append(slices.Clone(s.KnotsU), api.Rat{Den: []uint32{0}}) }, api.ErrArg},
		{func(s *api.Surface) { s.U = 7 }, api.ErrArg},
		{func(s *api.Surface) { s.U = 0 }, api.ErrArg},
		{func(s *api.Surface) { s.U = -3 }, api.ErrArg},
		{func(s *api.Surface) { s.KnotsU = list("0 0 0 3 3") }, api.ErrKnots},
		{func(s *api.Surface) { s.KnotsU = nil }, api.ErrKnots},
		{func(s *api.Surface) { s.KnotsU = slices.Repeat(list("3"), 44) }, api.ErrSize},
		{func(s *api.Surface) { s.KnotsU = list("0 0 0 4 3 3 3") }, api.ErrKnots},
		{func(s *api.Surface) { s.KnotsU = list("0 0 0 1 1 1 3 3 3") }, api.ErrKnots},
		{func(s *api.Surface) { s.V = 7 }, api.ErrArg},
		{func(s *api.Surface) { s.V = 0 }, api.ErrArg},
		{func(s *api.Surface) { s.KnotsV = list("0 2 2") }, api.ErrKnots},
		{func(s *api.Surface) { s.KnotsV = nil }, api.ErrKnots},
		{func(s *api.Surface) { s.KnotsV = slices.Repeat(list("3"), 43) }, api.ErrSize},
		{func(s *api.Surface) { s.KnotsV = list("0 0 -1 2 2") }, api.ErrKnots},
		{func(s *api.Surface) { s.KnotsV = list("0 0 1 1 2 2") }, api.ErrKnots},
		{func(s *api.Surface) { s.Poles = nil }, api.ErrArg},
		{func(s *api.Surface) { s.Poles = s.Poles[:3] }, api.ErrArg},
		{func(s *api.Surface) { s.Poles = append(s.Poles, s.Poles[0]) }, api.ErrArg},
		{func(s *api.Surface) { s.Poles[0] = s.Poles[0][:2] }, api.ErrArg},
		{func(s *api.Surface) { s.Poles[3] = s.Poles[3][:2] }, api.ErrArg},
		{func(s *api.Surface) { s.Poles[1] = append(s.Poles[1], s.Poles[1][0]) }, api.ErrArg},
		{func(s *api.Surface) { s.Poles[0][0].W = num("-1") }, api.ErrWeight},
		{func(s *api.Surface) { s.Poles[3][2].W = api.Rat{} }, api.ErrWeight},
		{func(s *api.Surface) { s.Poles[2][1].W = num("-1/1000000007") }, api.ErrWeight},
		{func(s *api.Surface) { s.Poles[0][0].P[0] = longBits() }, api.ErrSize},
		{func(s *api.Surface) { s.KnotsU[6], s.KnotsU[5], s.KnotsU[4] = longBits(), longBits(), longBits() }, api.ErrSize},
	}
}

// The first error decides, whatever else is wrong.
func TestCheckOrder(t *testing.T) {
	s := source(3)
	all := faults()
	for i, first := range all {
		for n := range 40 {
			x := hill()
			for _, later := range slices.Backward(all[i+1:]) {
				if n > 0 && s.below(4) == 0 {
					later.with(&x)
				}
			}
			first.with(&x)
			expectError(t, "Check of "+showSurface(x), surface.Check(x), first.want)
		}
	}
}

// All kinds of knots that are not valid count, in both directions.
func TestCheckOfKnots(t *testing.T) {
	lists := []string{"", "0 1", "0 0 1 1", "0 0 0 1 1 1", "0 0 0 1/2 1 1 1", "0 0 0 1/2 1/2 1 1 1", "0 0 0 1 1", "0 0 0 0 1 1 1", "0 0 1/2 1/2 1 1", "0 0 1/3 1/2 1 1", "1 1 0 0", "0 0 0 0 0 0", "0 0 0 0 1 1 1 1"}
	row := hill().Poles[0][:1]
	for _, u := range lists {
		for _, v := range lists {
			for degree := 1; degree <= 3; degree++ {
				s := api.Surface{U: degree, V: 4 - degree, KnotsU: list(u), KnotsV: list(v)}
				rows, columns := len(s.KnotsU)-s.U-1, len(s.KnotsV)-s.V-1
				for range max(0, rows) {
					s.Poles = append(s.Poles, slices.Repeat(row, max(0, columns)))
				}
				want := knots.Check(s.KnotsU, s.U)
				if want == api.OK {
					want = knots.Check(s.KnotsV, s.V)
				}
				expectError(t, "Check of the knots "+u+" and "+v, surface.Check(s), want)
			}
		}
	}
}

// The limit is api.MaxBits, for numerators and denominators of all numbers.
func TestCheckOfLongNumbers(t *testing.T) {
	power := func(bits int) *big.Rat {
		return new(big.Rat).SetInt(new(big.Int).Lsh(big.NewInt(1), uint(bits)))
	}
	set := func(i int, r *big.Rat) api.Surface {
		s := hill()
		*numbersOf(s)[i] = rat(r)
		return s
	}
	one, last := big.NewRat(1, 1), len(numbersOf(hill()))-1
	for bits, want := range map[int]api.Errno{api.MaxBits - 1: api.OK, api.MaxBits: api.ErrSize, api.MaxBits + 5: api.ErrSize} {
		for i := range numbersOf(hill()) {
			if i >= len(hill().KnotsU)+len(hill().KnotsV) {
				expectError(t, "Check with a long numerator", surface.Check(set(i, power(bits))), want)
				expectError(t, "Check with a long denominator", surface.Check(set(i, quotient(one, power(bits)))), want)
			}
		}
		end := rat(power(bits))
		u, v := hill(), hill()
		copy(u.KnotsU[4:], []api.Rat{end, end, end})
		copy(v.KnotsV[3:], []api.Rat{end, end})
		expectError(t, "Check with a long knot of u", surface.Check(u), want)
		expectError(t, "Check with a long knot of v", surface.Check(v), want)
		expectError(t, "Check with a long denominator of a knot of u", surface.Check(set(3, quotient(one, power(bits)))), want)
		expectError(t, "Check with a long denominator of a knot of v", surface.Check(set(9, quotient(one, power(bits)))), want)
	}
	expectError(t, "Check of a number of all bits", surface.Check(set(last, minus(power(api.MaxBits), one))), api.OK)
}

// different returns surfaces of which no two are equal.
func different() []api.Surface {
	all := append(surfaces(), api.Surface{}, api.Surface{U: 1}, api.Surface{V: 1}, api.Surface{Poles: [][]api.Pole{nil}}, api.Surface{Poles: [][]api.Pole{nil, nil}})
	for i := range numbersOf(hill()) {
		for _, r := range append(wrongNumbers(), num("77"), num("-3/8")) {
			s := hill()
			*numbersOf(s)[i] = r
			all = append(all, s)
		}
	}
	for _, change := range []func(s *api.Surface){
		func(s *api.Surface) { s.U = 3 }, func(s *api.Surface) { s.V = 3 }, func(s *api.Surface) { s.U, s.V = s.V, s.U },
		func(s *api.Surface) { s.KnotsU = s.KnotsU[1:] }, func(s *api.Surface) { s.KnotsV = s.KnotsV[1:] },
		func(s *api.Surface) { s.KnotsU = nil }, func(s *api.Surface) { s.KnotsV = nil }, func(s *api.Surface) { s.Poles = nil },
		func(s *api.Surface) { s.KnotsU, s.KnotsV = s.KnotsV, s.KnotsU }, func(s *api.Surface) { s.KnotsU = append(s.KnotsU, num("3")) },
		func(s *api.Surface) { s.KnotsV = append(s.KnotsV, num("2")) }, func(s *api.Surface) { s.Poles = s.Poles[1:] },
		func(s *api.Surface) { s.Poles = append(s.Poles, s.Poles[3]) }, func(s *api.Surface) { s.Poles[2] = nil },
		func(s *api.Surface) { s.Poles[3] = s.Poles[3][:2] }, func(s *api.Surface) { s.Poles[0] = append(s.Poles[0], s.Poles[0][2]) },
		func(s *api.Surface) { slices.Reverse(s.Poles) }, func(s *api.Surface) { slices.Reverse(s.Poles[1]) }, func(s *api.Surface) { slices.Reverse(s.KnotsV) },
	} {
		s := hill()
		change(&s)
		all = append(all, s)
	}
	return all
}

func TestSame(t *testing.T) {
	all := different()
	for i, s := range all {
		if !surface.Same(s, copyOf(s)) {
			t.Fatalf("Same of %v and itself", s)
		}
		for j, other := range all {
			if got := surface.Same(s, other); got != (i == j) {
				t.Fatalf("Same of %d (%v) and %d (%v) is %v", i, s, j, other, got)
			}
		}
	}
}

// R2: a nil slice and an empty one are equivalent.
func TestSameOfEmptyLists(t *testing.T) {
	s, other := hill(), hill()
	for _, r := range numbersOf(other) {
		r.Num, r.Den = append([]uint32{}, r.Num...), append([]uint32{}, r.Den...)
	}
	empty := api.Surface{KnotsU: []api.Rat{}, KnotsV: []api.Rat{}, Poles: [][]api.Pole{}}
	rows := [2]api.Surface{{Poles: [][]api.Pole{nil, {}}}, {Poles: [][]api.Pole{{}, nil}}}
	if !surface.Same(s, other) || !surface.Same(other, s) || !surface.Same(api.Surface{}, empty) || !surface.Same(rows[0], rows[1]) {
		t.Errorf("Same of empty lists")
	}
}

func TestDomain(t *testing.T) {
	u, v := surface.Domain(hill())
	expectText(t, "Domain", show(u.Lo, u.Hi, v.Lo, v.Hi), "0 3 0 2")
	for _, s := range surfaces() {
		u, v := surface.Domain(s)
		m := modelOf(s)
		expectText(t, "Domain of "+showSurface(s), show(u.Lo, u.Hi, v.Lo, v.Hi), show(rat(m.u.first()), rat(m.u.last()), rat(m.v.first()), rat(m.v.last())))
	}
}

// longSurface returns one of which many numbers have as many bits as they may.
func longSurface() api.Surface {
	s := source(6)
	long := func() *big.Rat {
		if s.below(2) == 0 {
			return s.simple()
		}
		return s.long(api.MaxBits)
	}
	u, v := s.side(2, 1, ascending(3, long)), s.side(1, 1, ascending(3, long))
	return s.surface(u, v, long)
}

// The numbers of surfaces may have api.MaxBits bits, and those of results more.
func TestLongNumbers(t *testing.T) {
	s := longSurface()
	m := modelOf(s)
	expectError(t, "Check of long numbers", surface.Check(s), api.OK)
	inner := m.u.inner()[0]
	x, y := between(m.u.first(), inner, big.NewRat(1, 3)), between(m.v.first(), m.v.last(), big.NewRat(1, 5))
	got, _ := surface.Eval(s, rat(x), rat(y))
	expectText(t, "Eval of long numbers", showPoint(got), showPoint(m.point(x, y)))
	part, e := surface.Cut(s, api.Span{Lo: rat(x), Hi: s.KnotsU[6]}, api.Span{Lo: s.KnotsV[0], Hi: rat(y)})
	expectError(t, "Cut of long numbers", e, api.OK)
	expectSurface(t, "Cut of long numbers", part, m.u.part(x, m.u.last()), m.v.part(m.v.first(), y), s)
	// What is longer than a valid surface may be is still computed with.
	expectError(t, "Check of the part", surface.Check(part), api.ErrSize)
	up, e := surface.ElevateV(part)
	expectError(t, "ElevateV of the part", e, api.OK)
	expectSurface(t, "ElevateV of the part", up, m.u.part(x, m.u.last()), m.v.part(m.v.first(), y).elevated(), s)
	if rational.Bits(up.Poles[1][1].P[0]) <= api.MaxBits {
		t.Errorf("ElevateV of long numbers is short")
	}
}
