package vector_test

import (
	"testing"

	"brepkernel/api"
	"brepkernel/rational"
	"brepkernel/vector"
)

// P4.2

func TestOrient2(t *testing.T) {
	for _, c := range []struct {
		a, b, c string
		want    int
	}{
		{"0 0 0", "1 0 0", "0 1 5", 1},
		{"0 0 0", "1 0 0", "0 -1 5", -1},
		{"0 0 7", "1 0 -3", "9 0 5", 0},
		{"1 1 0", "2 2 0", "3 3 0", 0},
		{"1 1 0", "2 2 0", "3 13/4 0", 1},
		{"1 1 0", "2 2 0", "3 11/4 0", -1},
		{"1 2 0", "1 2 1", "5 -7 2", 0}, // a and b are above one another
		{"5 -7 0", "1 2 0", "1 2 8", 0},
		{"1 2 0", "5 -7 0", "1 2 8", 0},
		{"0 0 0", "18446744073709551616 1 0", "18446744073709551615 1 0", 1},
		{"0 0 0", "18446744073709551616 1 0", "18446744073709551617 1 0", -1},
	} {
		if got := vector.Orient2(pt(c.a), pt(c.b), pt(c.c)); got != c.want {
			t.Errorf("Orient2(%s; %s; %s) = %d", c.a, c.b, c.c, got)
		}
	}
}

func TestOrient2IsASign(t *testing.T) {
	s := source(3)
	for range 1000 {
		a, b, c := s.point(), s.point(), s.point()
		want := rational.Sign(vector.Cross(vector.Sub(b, a), vector.Sub(c, a))[2])
		if got := vector.Orient2(a, b, c); got != want {
			t.Fatalf("Orient2(%s; %s; %s) = %d", show(a), show(b), show(c), got)
		}
	}
}

func TestOrient3(t *testing.T) {
	for _, c := range []struct {
		a, b, c, d string
		want       int
	}{
		{"0 0 0", "1 0 0", "0 1 0", "3 4 1", 1},
		{"0 0 0", "1 0 0", "0 1 0", "3 4 -1/9", -1},
		{"0 0 0", "1 0 0", "0 1 0", "3 4 0", 0},
		{"1 1 1", "2 1 1", "1 2 1", "0 0 18446744073709551617/18446744073709551616", 1},
		{"1 1 1", "2 1 1", "1 2 1", "0 0 18446744073709551615/18446744073709551616", -1},
		{"1 2 3", "2 3 4", "3 4 5", "9 1 7", 0}, // a, b, c are on a line
		{"1 2 3", "1 2 3", "3 4 6", "9 1 7", 0},
		{"1 2 3", "4 2 3", "3 4 6", "4 2 3", 0},
	} {
		if got := vector.Orient3(pt(c.a), pt(c.b), pt(c.c), pt(c.d)); got != c.want {
			t.Errorf("Orient3(%s; %s; %s; %s) = %d", c.a, c.b, c.c, c.d, got)
		}
	}
}

// Consequences: the signs change with an exchange of two arguments, and Orient3
// is the side of the plane through the first three points.

func TestExchanges(t *testing.T) {
	s := source(4)
	for range 500 {
		p := [4]api.Point{s.point(), s.point(), s.point(), s.point()}
		sign2, sign3 := vector.Orient2(p[0], p[1], p[2]), vector.Orient3(p[0], p[1], p[2], p[3])
		for i := range 4 {
			for j := range i {
				q := p
				q[i], q[j] = p[j], p[i]
				if got := vector.Orient3(q[0], q[1], q[2], q[3]); got != -sign3 {
					t.Fatalf("Orient3: %d, and %d with %d and %d exchanged", sign3, got, i, j)
				}
				if got := vector.Orient2(q[0], q[1], q[2]); i < 3 && got != -sign2 {
					t.Fatalf("Orient2: %d, and %d with %d and %d exchanged", sign2, got, i, j)
				}
			}
		}
	}
}

func TestOrient3IsSide(t *testing.T) {
	s := source(5)
	for range 1000 {
		a, b, c, d := s.point(), s.point(), s.point(), s.point()
		sign := vector.Orient3(a, b, c, d)
		q, e := vector.Through(a, b, c)
		if e != api.OK && sign != 0 || e == api.OK && sign != vector.Side(q, d) {
			t.Fatalf("Orient3(%s; %s; %s; %s) = %d", show(a), show(b), show(c), show(d), sign)
		}
	}
}

// P4.3

func showPlane(q api.Plane) string {
	return show(q.N) + "; " + rational.Text(q.D)
}

func TestThrough(t *testing.T) {
	for _, c := range []struct{ a, b, c, want string }{
		{"0 0 0", "1 0 0", "0 1 0", "0 0 1; 0"},
		{"0 0 0", "0 1 0", "1 0 0", "0 0 -1; 0"},
		{"0 0 2", "1 0 2", "0 3 2", "0 0 3; 6"},
		{"1 0 0", "0 1 0", "0 0 1", "1 1 1; 1"},
		{"1/2 0 0", "1/2 1/3 0", "1/2 0 -1", "-1/3 0 0; -1/6"},
	} {
		q, e := vector.Through(pt(c.a), pt(c.b), pt(c.c))
		expect(t, "Through", showPlane(q), c.want)
		if e != api.OK {
			t.Errorf("Through(%s; %s; %s): error %d", c.a, c.b, c.c, e)
		}
	}
	s := source(6)
	for range 500 {
		a, b, c := s.point(), s.point(), s.point()
		q, e := vector.Through(a, b, c)
		want := api.Plane{N: vector.Cross(vector.Sub(b, a), vector.Sub(c, a))}
		want.D = vector.Dot(want.N, a)
		expect(t, "Through", showPlane(q), showPlane(want))
		if (e == api.ErrFlat) != vector.Zero(want.N) {
			t.Fatalf("Through(%s; %s; %s): error %d", show(a), show(b), show(c), e)
		}
		if e == api.OK && (vector.Side(q, a) != 0 || vector.Side(q, b) != 0 || vector.Side(q, c) != 0) {
			t.Fatalf("Through(%s; %s; %s) does not go through them", show(a), show(b), show(c))
		}
	}
}

func TestThroughPointsOfALine(t *testing.T) {
	for _, l := range [][3]string{
		{"1 2 3", "2 4 6", "3 6 9"}, {"1 2 3", "-1 -2 -3", "1/2 1 3/2"}, {"0 0 1", "0 0 2", "0 0 -3"},
		{"1 2 3", "1 2 3", "4 5 6"}, {"1 2 3", "4 5 6", "1 2 3"}, {"4 5 6", "1 2 3", "1 2 3"}, {"1 2 3", "1 2 3", "1 2 3"},
	} {
		q, e := vector.Through(pt(l[0]), pt(l[1]), pt(l[2]))
		expect(t, "Through", showPlane(q), "0 0 0; 0")
		if e != api.ErrFlat {
			t.Errorf("Through(%v): error %d", l, e)
		}
	}
}

func TestSide(t *testing.T) {
	q := api.Plane{N: pt("1 -2 1/2"), D: num("3")}
	for text, want := range map[string]int{
		"3 0 0": 0, "5 1 0": 0, "0 0 6": 0, "0 -3/2 0": 0,
		"4 0 0": 1, "3 -1 0": 1, "3 0 1/18446744073709551616": 1,
		"0 0 0": -1, "3 1 0": -1, "3 0 -1/18446744073709551616": -1,
	} {
		if got := vector.Side(q, pt(text)); got != want {
			t.Errorf("Side(%s) = %d", text, got)
		}
		back := api.Plane{N: vector.Scale(num("-1"), q.N), D: num("-3")}
		if got := vector.Side(back, pt(text)); got != -want {
			t.Errorf("Side(%s) of the other side = %d", text, got)
		}
	}
}

func TestSamePlane(t *testing.T) {
	plane := func(n, d string) api.Plane { return api.Plane{N: pt(n), D: num(d)} }
	for _, c := range []struct {
		a, b api.Plane
		want bool
	}{
		{plane("0 0 3", "6"), plane("0 0 1", "2"), true},
		{plane("0 0 3", "6"), plane("0 0 1/3", "2/3"), true},
		{plane("0 0 3", "6"), plane("0 0 -3", "-6"), false}, // the other side
		{plane("0 0 3", "6"), plane("0 0 3", "7"), false},
		{plane("0 0 3", "6"), plane("0 0 3", "-6"), false},
		{plane("0 0 3", "6"), plane("0 0 3", "0"), false},
		{plane("0 0 3", "0"), plane("0 0 3", "6"), false},
		{plane("0 0 3", "0"), plane("0 0 5", "0"), true},
		{plane("0 0 3", "0"), plane("0 0 -5", "0"), false},
		{plane("0 0 3", "0"), plane("0 3 0", "0"), false},
		{plane("1 0 0", "0"), plane("1 1 0", "0"), false},
		{plane("1 1 0", "0"), plane("1 0 0", "0"), false},
		{plane("1 2 3", "4"), plane("1/2 1 3/2", "2"), true},
		{plane("1 2 3", "4"), plane("1/2 1 3/2", "3"), false},
		{plane("1 2 3", "4"), plane("1/2 1 2", "2"), false},
		{plane("1 2 3", "4"), plane("1/2 2 3/2", "2"), false},
		{plane("1 2 3", "4"), plane("1 1 3/2", "2"), false},
		{plane("1 -2 3", "-4"), plane("7 -14 21", "-28"), true},
		{plane("1 -2 3", "-4"), plane("7 14 21", "-28"), false},
		{plane("-1 0 2", "5"), plane("-2 0 4", "10"), true},
		{plane("-1 0 2", "5"), plane("-2 0 5", "10"), false},
		{plane("0 -1 2", "5"), plane("0 -2 4", "11"), false},
		{plane("0 -1 2", "5"), plane("0 -18446744073709551617 36893488147419103234", "92233720368547758085"), true},
		{plane("0 -1 2", "5"), plane("0 -18446744073709551617 36893488147419103235", "92233720368547758085"), false},
	} {
		if vector.SamePlane(c.a, c.b) != c.want || vector.SamePlane(c.b, c.a) != c.want {
			t.Errorf("SamePlane(%s; %s) is not %v", showPlane(c.a), showPlane(c.b), c.want)
		}
	}
}

func TestMultiplesOfPlanes(t *testing.T) {
	s := source(7)
	for range 1000 {
		q := api.Plane{N: s.point(), D: s.number()}
		r := s.number()
		if vector.Zero(q.N) || rational.Sign(r) == 0 {
			continue
		}
		other := api.Plane{N: vector.Scale(r, q.N), D: rational.Mul(r, q.D)}
		if got := vector.SamePlane(q, other); got != (rational.Sign(r) > 0) {
			t.Fatalf("SamePlane of %s and its multiple by %s is %v", showPlane(q), rational.Text(r), got)
		}
		moved := api.Plane{N: other.N, D: rational.Add(other.D, num("1/3"))}
		if vector.SamePlane(q, moved) || vector.SamePlane(moved, q) {
			t.Fatalf("SamePlane(%s; %s) is true", showPlane(q), showPlane(moved))
		}
	}
}
