package vector_test

import (
	"testing"

	"brepkernel/api"
	"brepkernel/rational"
	"brepkernel/vector"
)

// P4.1

func TestSame(t *testing.T) {
	all := []string{"0 0 0", "1 2 3", "-1 2 3", "1 -2 3", "1 2 -3", "1/2 2 3", "1 1/2 3", "1 2 1/3", "3 2 1", "2 3 1", "18446744073709551616 2 3", "1 2 1/18446744073709551616"}
	for i, p := range all {
		for j, q := range all {
			if got := vector.Same(pt(p), pt(q)); got != (i == j) {
				t.Errorf("Same(%s; %s) is %v", p, q, got)
			}
		}
	}
}

func TestZero(t *testing.T) {
	for text, want := range map[string]bool{
		"0 0 0": true, "1 0 0": false, "0 1 0": false, "0 0 1": false, "-1/9 0 0": false, "0 -1/9 0": false, "0 0 -1/9": false,
		"1 -1 0": false, "0 0 1/18446744073709551616": false, "1 2 3": false,
	} {
		if got := vector.Zero(pt(text)); got != want {
			t.Errorf("Zero(%s) is %v", text, got)
		}
	}
}

// R2: a nil list and an empty one are equivalent.
func TestEmptyLists(t *testing.T) {
	empty := api.Rat{Num: []uint32{}, Den: []uint32{}}
	zero := api.Point{empty, {}, empty}
	if !vector.Zero(zero) || !vector.Same(zero, api.Point{}) || !vector.Same(api.Point{}, zero) {
		t.Errorf("Zero or Same of empty lists")
	}
}

func TestCoordinates(t *testing.T) {
	s := source(1)
	for range 1000 {
		p, q, r := s.point(), s.point(), s.number()
		sum, difference, multiple := vector.Add(p, q), vector.Sub(p, q), vector.Scale(r, p)
		for i := range 3 {
			expect(t, "Add", rational.Text(sum[i]), rational.Text(rational.Add(p[i], q[i])))
			expect(t, "Sub", rational.Text(difference[i]), rational.Text(rational.Sub(p[i], q[i])))
			expect(t, "Scale", rational.Text(multiple[i]), rational.Text(rational.Mul(r, p[i])))
		}
	}
}

func TestProducts(t *testing.T) {
	s := source(2)
	for range 1000 {
		a, b, c := s.point(), s.point(), s.point()
		scalar := total([]api.Rat{a[0], b[0]}, []api.Rat{a[1], b[1]}, []api.Rat{a[2], b[2]})
		expect(t, "Dot", rational.Text(vector.Dot(a, b)), rational.Text(scalar))
		var product api.Point
		for _, s := range permutations() {
			term := total([]api.Rat{s.sign, a[s.of[1]], b[s.of[2]]})
			product[s.of[0]] = rational.Add(product[s.of[0]], term)
		}
		expect(t, "Cross", show(vector.Cross(a, b)), show(product))
		det := determinant([3]api.Point{a, b, c})
		expect(t, "Det", rational.Text(vector.Det(a, b, c)), rational.Text(det))
	}
}

func TestProductsOfUnits(t *testing.T) {
	x, y, z := pt("1 0 0"), pt("0 1 0"), pt("0 0 1")
	for _, c := range []struct {
		p, q api.Point
		want string
	}{
		{x, y, "0 0 1"}, {y, z, "1 0 0"}, {z, x, "0 1 0"},
		{y, x, "0 0 -1"}, {z, y, "-1 0 0"}, {x, z, "0 -1 0"},
		{x, x, "0 0 0"}, {pt("1 2 3"), pt("-2 -4 -6"), "0 0 0"}, {api.Point{}, y, "0 0 0"},
	} {
		expect(t, "Cross", show(vector.Cross(c.p, c.q)), c.want)
	}
	expect(t, "Det", rational.Text(vector.Det(x, y, z)), "1")
	expect(t, "Det", rational.Text(vector.Det(y, x, z)), "-1")
	expect(t, "Det", rational.Text(vector.Det(x, y, vector.Add(x, y))), "0")
	expect(t, "Dot", rational.Text(vector.Dot(x, y)), "0")
	expect(t, "Scale", show(vector.Scale(api.Rat{}, pt("1 2 3"))), "0 0 0")
	expect(t, "Scale", show(vector.Scale(num("-1/2"), pt("1 -2 0"))), "-1/2 1 0")
}
