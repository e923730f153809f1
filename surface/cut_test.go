package surface_test

import (
	"math/big"
	"testing"

	"brepkernel/api"
	"brepkernel/surface"
)

// spanOf returns the span from a to b, also if b is less.
func spanOf(a, b *big.Rat) api.Span { return api.Span{Lo: rat(a), Hi: rat(b)} }

// spanText reads the ends of a span.
func spanText(text string) api.Span {
	l := list(text)
	return api.Span{Lo: l[0], Hi: l[1]}
}

// P12.4

func TestCutOfExamples(t *testing.T) {
	for _, x := range []struct {
		s          api.Surface
		u, v, want string
	}{
		{saddle(), "0 1", "0 1", showSurface(saddle())},
		{hill(), "0 3", "0 2", showSurface(hill())},
		{saddle(), "1/2 1", "0 1/4", "1 1: 1/2 1/2 1 1: 0 0 1/4 1/4: 1/2 0 0 1; 1/2 1/4 1/8 1 | 1 0 0 1; 1 1/4 1/4 1"},
		{saddle(), "1/3 2/3", "0 1", "1 1: 1/3 1/3 2/3 2/3: 0 0 1 1: 1/3 0 0 1; 1/3 1 1/3 1 | 2/3 0 0 1; 2/3 1 2/3 1"},
		{hill(), "0 3", "1 2", "2 1: 0 0 0 1 3 3 3: 1 1 2 2: 0 1 0 2; 0 3 1 1 | 1 1 4 1/3; 1 3 1 2 | 2 1 -5 1; 2 3 1 1 | 4 1 0 1; 4 3 1/2 5"},
		{hill(), "1 3", "1 3/2", "2 1: 1 1 1 3 3 3: 1 1 3/2 3/2: 8/5 1 -7/5 5/9; 13/10 5/2 2/5 10/9 | 2 1 -5 1; 2 2 -2 1 | 4 1 0 1; 4 8/3 5/12 3"},
		{surfaceOf(1, 1, "0 0 1 1", "0 0 1 2 4 4", "0 0 0 1; 0 2 0 1; 0 2 2 1; 0 8 2 1 | 1 0 0 1; 1 2 0 3; 1 2 2 1; 1 8 2 1"), "0 1", "1/2 3",
			"1 1: 0 0 1 1: 1/2 1/2 1 2 3 3: 0 1 0 1; 0 2 0 1; 0 2 2 1; 0 5 2 1 | 1 3/2 0 2; 1 2 0 3; 1 2 2 1; 1 5 2 1"},
	} {
		got, e := surface.Cut(x.s, spanText(x.u), spanText(x.v))
		expectText(t, "Cut to "+x.u+", "+x.v, showSurface(got), x.want)
		expectError(t, "Cut to "+x.u+", "+x.v, e, api.OK)
	}
}

// spans returns some spans within a side, from and to its knots and between them.
func (s *source) spans(d side, n int) [][2]*big.Rat {
	all := d.parameters()
	out := [][2]*big.Rat{{d.first(), d.last()}}
	for len(out) < n {
		a, b := all[s.below(len(all))], all[s.below(len(all))]
		if a.Cmp(b) < 0 {
			out = append(out, [2]*big.Rat{a, b})
		}
	}
	return out
}

func TestCut(t *testing.T) {
	s := source(8)
	for _, x := range append(surfaces(), fullSurfaces()...) {
		m := modelOf(x)
		us, vs := s.spans(m.u, 3), s.spans(m.v, 3)
		for i, u := range us {
			v := vs[(i+1+s.below(2))%3]
			got, e := surface.Cut(x, spanOf(u[0], u[1]), spanOf(v[0], v[1]))
			what := "Cut to " + show(rat(u[0]), rat(u[1]), rat(v[0]), rat(v[1])) + " of " + showSurface(x)
			expectError(t, what, e, api.OK)
			expectSurface(t, what, got, m.u.part(u[0], u[1]), m.v.part(v[0], v[1]), x)
		}
		whole, _ := surface.Cut(x, spanOf(m.u.first(), m.u.last()), spanOf(m.v.first(), m.v.last()))
		expectText(t, "Cut to the whole domain", showSurface(whole), showSurface(x))
	}
}

func TestCutOutOfRange(t *testing.T) {
	s := source(9)
	for _, x := range surfaces() {
		m := modelOf(x)
		goodU, goodV := s.spans(m.u, 3)[s.below(3)], s.spans(m.v, 3)[s.below(3)]
		for _, u := range wrongSpans(m.u) {
			expectRange(t, x, u, spanOf(goodV[0], goodV[1]))
		}
		for _, v := range wrongSpans(m.v) {
			expectRange(t, x, spanOf(goodU[0], goodU[1]), v)
			expectRange(t, x, wrongSpans(m.u)[s.below(8)], v)
		}
	}
}

func expectRange(t *testing.T, s api.Surface, u, v api.Span) {
	t.Helper()
	got, e := surface.Cut(s, u, v)
	if e != api.ErrRange {
		t.Fatalf("Cut to %v, %v of %s: error %d", u, v, showSurface(s), e)
	}
	expectNothing(t, "Cut out of range", got)
}

// wrongSpans returns spans that are not valid, that are single points, and that are not
// part of the domain.
func wrongSpans(d side) []api.Span {
	first, last := d.first(), d.last()
	middle, little := between(first, last, big.NewRat(1, 3)), big.NewRat(1, 1000000007)
	out := []api.Span{
		spanOf(first, first), spanOf(middle, middle), spanOf(last, last), spanOf(last, first), spanOf(middle, first), spanOf(last, middle),
		spanOf(minus(first, little), last), spanOf(first, plus(last, little)), spanOf(minus(first, little), middle), spanOf(middle, plus(last, little)),
		spanOf(minus(first, little), plus(last, little)), spanOf(minus(first, little), first), spanOf(last, plus(last, little)), spanOf(plus(last, little), plus(last, big.NewRat(1, 1))),
	}
	for _, r := range wrongNumbers() {
		out = append(out, api.Span{Lo: rat(first), Hi: r}, api.Span{Lo: r, Hi: rat(last)}, api.Span{Lo: r, Hi: r})
	}
	return out
}

// A number that is not valid is found, also where the number for which it stands is in
// the domain.
func TestCutToInvalidNumbers(t *testing.T) {
	wrong := []api.Rat{{Num: []uint32{1, 0}}, {Num: []uint32{2}, Den: []uint32{4}}, {Num: []uint32{1}, Den: []uint32{1}}, {Num: []uint32{0}}, {Neg: true}, {Num: []uint32{2}, Den: []uint32{2, 0}}}
	for _, r := range wrong {
		for _, end := range list("0 1 2 3") {
			for _, s := range []api.Span{{Lo: r, Hi: end}, {Lo: end, Hi: r}} {
				expectRange(t, hill(), s, spanText("0 2"))
				expectRange(t, hill(), spanText("0 3"), s)
			}
		}
	}
}

// The chapter's consequence.
func TestCutOfCut(t *testing.T) {
	s := source(10)
	for _, x := range surfaces() {
		m := modelOf(x)
		u, v := s.spans(m.u, 3)[2], s.spans(m.v, 3)[2]
		outer, _ := surface.Cut(x, spanOf(u[0], u[1]), spanOf(v[0], v[1]))
		within := func(d [2]*big.Rat) api.Span {
			return spanOf(between(d[0], d[1], big.NewRat(int64(s.below(3)), 7)), between(d[0], d[1], big.NewRat(int64(7-s.below(3)), 7)))
		}
		a, b := within(u), within(v)
		inner, e := surface.Cut(outer, a, b)
		want, _ := surface.Cut(x, a, b)
		expectError(t, "Cut of Cut", e, api.OK)
		expectText(t, "Cut of Cut of "+showSurface(x), showSurface(inner), showSurface(want))
	}
}

// P12.5

func TestPatchesOfExamples(t *testing.T) {
	for _, x := range []struct {
		s    api.Surface
		want []string
	}{
		{saddle(), []string{showSurface(saddle())}},
		{surfaceOf(1, 1, "0 0 1 3 3", "0 0 2 5 5", "0 0 0 1; 0 1 0 1; 0 2 0 2 | 1 0 0 3; 1 1 1 1; 1 2 0 1 | 2 0 0 1; 2 1 0 1/2; 2 2 7 1"), []string{
			"1 1: 0 0 1 1: 0 0 2 2: 0 0 0 1; 0 1 0 1 | 1 0 0 3; 1 1 1 1", "1 1: 0 0 1 1: 2 2 5 5: 0 1 0 1; 0 2 0 2 | 1 1 1 1; 1 2 0 1",
			"1 1: 1 1 3 3: 0 0 2 2: 1 0 0 3; 1 1 1 1 | 2 0 0 1; 2 1 0 1/2", "1 1: 1 1 3 3: 2 2 5 5: 1 1 1 1; 1 2 0 1 | 2 1 0 1/2; 2 2 7 1",
		}},
	} {
		got := surface.Patches(x.s)
		if len(got) != len(x.want) {
			t.Fatalf("%d patches", len(got))
		}
		for i, s := range got {
			expectText(t, "a patch", showSurface(s), x.want[i])
		}
	}
}

func TestPatches(t *testing.T) {
	many := 0
	for _, x := range append(surfaces(), fullSurfaces()...) {
		m := modelOf(x)
		us, vs := m.u.distinct(), m.v.distinct()
		got := surface.Patches(x)
		if len(got) != (len(us)-1)*(len(vs)-1) {
			t.Fatalf("%d patches of %s", len(got), showSurface(x))
		}
		for i, s := range got {
			n, j := i/(len(vs)-1), i%(len(vs)-1)
			u, v := m.u.part(us[n], us[n+1]), m.v.part(vs[j], vs[j+1])
			expectSurface(t, "a patch of "+showSurface(x), s, u, v, x)
			if len(got) < 10 || i%7 == 0 {
				cut, _ := surface.Cut(x, spanOf(us[n], us[n+1]), spanOf(vs[j], vs[j+1]))
				expectText(t, "a patch of "+showSurface(x), showSurface(s), showSurface(cut))
			}
		}
		if len(us) > 2 && len(vs) > 2 {
			many++
		}
	}
	if many < 10 {
		t.Errorf("%d surfaces have inner knots in both directions", many)
	}
}
