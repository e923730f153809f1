package vector_test

import (
	"testing"

	"brepkernel/api"
	"brepkernel/rational"
	"brepkernel/vector"
)

// P4.4

const identity = "1 0 0; 0 1 0; 0 0 1; 0 0 0"

func matrix(rows ...string) api.Map {
	return api.Map{M: [3]api.Point{pt(rows[0]), pt(rows[1]), pt(rows[2])}, T: pt(rows[3])}
}

func TestIdentity(t *testing.T) {
	expect(t, "Identity", showMap(vector.Identity()), identity)
	s := source(8)
	for range 50 {
		m, p := s.affine(), s.point()
		expect(t, "Apply", show(vector.Apply(vector.Identity(), p)), show(p))
		expect(t, "Turn", show(vector.Turn(vector.Identity(), p)), show(p))
		expect(t, "Compose", showMap(vector.Compose(m, vector.Identity())), showMap(m))
		expect(t, "Compose", showMap(vector.Compose(vector.Identity(), m)), showMap(m))
	}
}

func TestApplyAndTurn(t *testing.T) {
	m := matrix("0 -1 0", "2 0 0", "1 0 1", "1 2 3")
	expect(t, "Apply", show(vector.Apply(m, pt("1 1/2 1"))), "1/2 4 5")
	expect(t, "Turn", show(vector.Turn(m, pt("1 1/2 1"))), "-1/2 2 2")
	expect(t, "Apply", show(vector.Apply(m, api.Point{})), "1 2 3")
	expect(t, "Turn", show(vector.Turn(m, api.Point{})), "0 0 0")
	expect(t, "Apply", show(vector.Apply(api.Map{}, pt("1 2 3"))), "0 0 0")
	s := source(9)
	for range 500 {
		m, p := s.affine(), s.point()
		var turned, applied api.Point
		for i, row := range m.M {
			turned[i] = total([]api.Rat{row[0], p[0]}, []api.Rat{row[1], p[1]}, []api.Rat{row[2], p[2]})
			applied[i] = rational.Add(turned[i], m.T[i])
		}
		expect(t, "Turn", show(vector.Turn(m, p)), show(turned))
		expect(t, "Apply", show(vector.Apply(m, p)), show(applied))
	}
}

func TestCompose(t *testing.T) {
	a := matrix("0 -1 0", "1 0 0", "0 0 1", "5 0 0") // a quarter turn, and a move
	b := matrix("2 0 0", "0 3 0", "0 0 1", "0 0 1")
	expect(t, "Compose", showMap(vector.Compose(a, b)), "0 -3 0; 2 0 0; 0 0 1; 5 0 1")
	expect(t, "Compose", showMap(vector.Compose(b, a)), "0 -2 0; 3 0 0; 0 0 1; 10 0 1")
	s := source(10)
	for range 300 {
		a, b, p := s.affine(), s.affine(), s.point()
		both := vector.Compose(a, b)
		expect(t, "Apply of Compose", show(vector.Apply(both, p)), show(vector.Apply(a, vector.Apply(b, p))))
		expect(t, "Turn of Compose", show(vector.Turn(both, p)), show(vector.Turn(a, vector.Turn(b, p))))
		product := rational.Mul(vector.Volume(a), vector.Volume(b))
		expect(t, "Volume of Compose", rational.Text(vector.Volume(both)), rational.Text(product))
	}
}

func TestInverse(t *testing.T) {
	for _, c := range []struct {
		m    api.Map
		want string
	}{
		{vector.Identity(), identity},
		{matrix("1 0 0", "0 1 0", "0 0 1", "1 -2 1/3"), "1 0 0; 0 1 0; 0 0 1; -1 2 -1/3"},
		{matrix("2 0 0", "0 -3 0", "0 0 1/4", "2 3 1"), "1/2 0 0; 0 -1/3 0; 0 0 4; -1 1 -4"},
		{matrix("0 0 1", "1 0 0", "0 1 0", "1 2 3"), "0 1 0; 0 0 1; 1 0 0; -2 -3 -1"},
		{matrix("1 2 3", "0 1 4", "5 6 0", "0 0 0"), "-24 18 5; 20 -15 -4; -5 4 1; 0 0 0"},
	} {
		got, e := vector.Inverse(c.m)
		expect(t, "Inverse", showMap(got), c.want)
		if e != api.OK {
			t.Errorf("Inverse(%s): error %d", showMap(c.m), e)
		}
	}
}

func TestInverseUndoes(t *testing.T) {
	s := source(11)
	flat := 0
	for range 300 {
		m := s.affine()
		back, e := vector.Inverse(m)
		if rational.Sign(determinant(m.M)) == 0 {
			flat++
			expect(t, "Inverse", showMap(back), showMap(api.Map{}))
			if e != api.ErrFlat {
				t.Fatalf("Inverse(%s): error %d", showMap(m), e)
			}
			continue
		}
		expect(t, "Compose", showMap(vector.Compose(m, back)), identity)
		expect(t, "Compose", showMap(vector.Compose(back, m)), identity)
		if e != api.OK {
			t.Fatalf("Inverse(%s): error %d", showMap(m), e)
		}
	}
	if flat == 0 {
		t.Errorf("no map was flat")
	}
}

func TestInverseOfFlatMaps(t *testing.T) {
	for _, m := range []api.Map{
		{}, {T: pt("1 2 3")},
		matrix("1 0 0", "0 1 0", "0 0 0", "1 2 3"), matrix("1 2 3", "1 2 3", "0 0 1", "1 2 3"),
		matrix("1 2 3", "4 5 6", "7 8 9", "1 2 3"), matrix("0 1 2", "0 3 4", "0 5 7", "0 0 0"),
	} {
		back, e := vector.Inverse(m)
		expect(t, "Inverse", showMap(back), showMap(api.Map{}))
		if e != api.ErrFlat {
			t.Errorf("Inverse(%s): error %d", showMap(m), e)
		}
	}
}

func TestVolume(t *testing.T) {
	for _, c := range []struct {
		m    api.Map
		want string
	}{
		{vector.Identity(), "1"}, {api.Map{T: pt("1 2 3")}, "0"},
		{matrix("2 0 0", "0 3 0", "0 0 1/4", "9 9 9"), "3/2"},
		{matrix("0 1 0", "1 0 0", "0 0 1", "0 0 0"), "-1"},
		{matrix("0 -1 0", "2 0 0", "1 0 1", "1 2 3"), "2"},
		{matrix("1 2 3", "4 5 6", "7 8 9", "0 0 0"), "0"},
	} {
		expect(t, "Volume", rational.Text(vector.Volume(c.m)), c.want)
	}
	s := source(12)
	for range 300 {
		m := s.affine()
		expect(t, "Volume", rational.Text(vector.Volume(m)), rational.Text(determinant(m.M)))
	}
}
