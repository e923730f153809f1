package tensor_test

import (
	"math"
	"math/big"
	"testing"

	"brepkernel/api"
	"brepkernel/rational"
	"brepkernel/tensor"
)

// P7.2

func TestDiffOfExamples(t *testing.T) {
	for _, c := range []struct {
		n            api.Net
		diffU, diffV string
	}{
		{net(1, 1, "0 0 0 1"), "0 1: 0 1", "1 0: 0 1"}, {net(1, 2, "1 1 1 1 1 2"), "0 2: 0 0 1", "1 1: 0 0 0 2"},
		{net(0, 0, "5"), "0 0: 0", "0 0: 0"}, {net(0, 1, "5 7"), "0 1: 0 0", "0 0: 2"}, {net(1, 0, "5 7"), "0 0: 2", "1 0: 0 0"},
		{net(2, 1, "1 0 3 4 5 5"), "1 1: 4 8 4 2", "2 0: -1 1 0"}, {net(2, 2, "3 3 3 3 3 3 3 3 3"), "1 2: 0 0 0 0 0 0", "2 1: 0 0 0 0 0 0"},
	} {
		expectText(t, "DiffU of "+show(c.n), show(tensor.DiffU(c.n)), c.diffU)
		expectText(t, "DiffV of "+show(c.n), show(tensor.DiffV(c.n)), c.diffV)
	}
}

func TestDiff(t *testing.T) {
	s := source(11)
	for _, d := range degrees() {
		n := s.net(d[0], d[1])
		expect(t, "DiffU of "+show(n), tensor.DiffU(n), max(0, d[0]-1), d[1], func(x, y *big.Rat) *big.Rat {
			return weighted(n, slopes(d[0], x), functions(d[1], y))
		})
		expect(t, "DiffV of "+show(n), tensor.DiffV(n), d[0], max(0, d[1]-1), func(x, y *big.Rat) *big.Rat {
			return weighted(n, functions(d[0], x), slopes(d[1], y))
		})
		expectText(t, "derivatives in both variables", show(tensor.DiffU(tensor.DiffV(n))), show(tensor.DiffV(tensor.DiffU(n))))
	}
}

func TestElevateOfExamples(t *testing.T) {
	for _, c := range []struct {
		n    api.Net
		u, v int
		want string
	}{
		{net(1, 1, "0 0 0 1"), 2, 1, "2 1: 0 0 0 1/2 0 1"}, {net(1, 1, "0 0 0 1"), 1, 2, "1 2: 0 0 0 0 1/2 1"}, {net(1, 1, "0 0 0 1"), 1, 1, "1 1: 0 0 0 1"},
		{net(1, 1, "0 0 0 1"), 2, 2, "2 2: 0 0 0 0 1/4 1/2 0 1/2 1"}, {net(0, 0, "1/3"), 1, 2, "1 2: 1/3 1/3 1/3 1/3 1/3 1/3"},
		{net(0, 2, "1 0 3"), 0, 4, "0 4: 1 1/2 2/3 3/2 3"}, {net(2, 0, "1 0 3"), 4, 0, "4 0: 1 1/2 2/3 3/2 3"}, {net(0, 0, "0"), 0, 1, "0 1: 0 0"},
	} {
		got, e := tensor.Elevate(c.n, c.u, c.v)
		expectText(t, "Elevate "+show(c.n), show(got), c.want)
		if e != api.OK {
			t.Errorf("Elevate(%s; %d, %d): error %d", show(c.n), c.u, c.v, e)
		}
	}
}

func TestElevate(t *testing.T) {
	s := source(12)
	for _, d := range degrees() {
		n := s.net(d[0], d[1])
		for _, more := range [][2]int{{0, 0}, {0, 1}, {1, 0}, {3, 2}, {api.MaxPoly - d[0], 0}, {0, api.MaxPoly - d[1]}, {api.MaxPoly - d[0], api.MaxPoly - d[1]}} {
			u, v := d[0]+more[0], d[1]+more[1]
			if u > api.MaxPoly || v > api.MaxPoly {
				continue
			}
			got, e := tensor.Elevate(n, u, v)
			expect(t, "Elevate "+show(n), got, u, v, func(x, y *big.Rat) *big.Rat { return value(n, x, y) })
			if e != api.OK {
				t.Fatalf("Elevate from %v to %d and %d: error %d", d, u, v, e)
			}
		}
	}
}

func TestElevateOutOfRange(t *testing.T) {
	for _, d := range degrees() {
		n := constant(d[0], d[1], rational.Int(1))
		for _, to := range []int{-1, -2, math.MinInt, math.MinInt + 1, api.MaxPoly + 1, 1 << 40, math.MaxInt} {
			for _, c := range [][2]int{{to, d[1]}, {d[0], to}, {to, to}, {to, api.MaxPoly}, {api.MaxPoly, to}, {d[0] - 1, d[1]}, {d[0], d[1] - 1}, {d[0] - 1, d[1] - 1}} {
				if got, e := tensor.Elevate(n, c[0], c[1]); got.U != 0 || got.V != 0 || len(got.C) != 0 || e != api.ErrRange {
					t.Errorf("Elevate from %v to %v: %s, %d", d, c, show(got), e)
				}
			}
		}
	}
}

func TestAddAndSubOfExamples(t *testing.T) {
	for _, c := range []struct {
		a, b     api.Net
		sum, dif string
	}{
		{net(1, 1, "0 0 0 1"), net(1, 2, "1 1 1 1 1 2"), "1 2: 1 1 1 1 3/2 3", "1 2: -1 -1 -1 -1 -1/2 -1"},
		{net(1, 2, "1 1 1 1 1 2"), net(1, 1, "0 0 0 1"), "1 2: 1 1 1 1 3/2 3", "1 2: 1 1 1 1 1/2 1"},
		{net(1, 0, "0 1"), net(0, 1, "0 1"), "1 1: 0 1 1 2", "1 1: 0 -1 1 0"}, {net(0, 1, "0 1"), net(1, 0, "0 1"), "1 1: 0 1 1 2", "1 1: 0 1 -1 0"},
		{net(0, 0, "2"), net(0, 0, "1/2"), "0 0: 5/2", "0 0: 3/2"}, {net(1, 1, "1 2 -3 4"), net(1, 1, "1 2 -3 4"), "1 1: 2 4 -6 8", "1 1: 0 0 0 0"},
		{net(2, 0, "0 0 1"), net(0, 0, "3"), "2 0: 3 3 4", "2 0: -3 -3 -2"}, {net(0, 0, "0"), net(2, 1, "0 0 0 0 0 0"), "2 1: 0 0 0 0 0 0", "2 1: 0 0 0 0 0 0"},
	} {
		expectText(t, "Add of "+show(c.a)+" and "+show(c.b), show(tensor.Add(c.a, c.b)), c.sum)
		expectText(t, "Sub of "+show(c.a)+" and "+show(c.b), show(tensor.Sub(c.a, c.b)), c.dif)
	}
}

func TestAddAndSub(t *testing.T) {
	s := source(13)
	for _, d := range degrees() {
		for _, f := range [][2]int{{0, 0}, {1, 3}, {3, 1}, {d[0], d[1]}, {d[1], d[0]}, {api.MaxPoly, 1}} {
			a, b := s.net(d[0], d[1]), s.net(f[0], f[1])
			u, v, what := max(d[0], f[0]), max(d[1], f[1]), show(a)+" and "+show(b)
			expect(t, "Add of "+what, tensor.Add(a, b), u, v, func(x, y *big.Rat) *big.Rat { return plus(value(a, x, y), value(b, x, y)) })
			expect(t, "Sub of "+what, tensor.Sub(a, b), u, v, func(x, y *big.Rat) *big.Rat { return minus(value(a, x, y), value(b, x, y)) })
		}
	}
}

func TestMulOfExamples(t *testing.T) {
	for _, c := range []struct {
		a, b api.Net
		want string
	}{
		{net(1, 1, "0 0 0 1"), net(1, 1, "0 0 0 1"), "2 2: 0 0 0 0 0 0 0 0 1"}, {net(1, 0, "0 1"), net(0, 1, "0 1"), "1 1: 0 0 0 1"},
		{net(0, 1, "0 1"), net(0, 2, "1 0 3"), "0 3: 0 1/3 0 3"}, {net(1, 0, "0 1"), net(2, 0, "1 0 3"), "3 0: 0 1/3 0 3"},
		{net(0, 0, "2/3"), net(1, 1, "3 0 -6 1/2"), "1 1: 2 0 -4 1/3"}, {net(1, 1, "0 -1 1 0"), net(1, 1, "0 1 1 2"), "2 2: 0 0 -1 0 0 -1 1 1 0"},
		{net(0, 0, "0"), net(0, 0, "7"), "0 0: 0"},
	} {
		product, e := tensor.Mul(c.a, c.b)
		expectText(t, "Mul of "+show(c.a)+" and "+show(c.b), show(product), c.want)
		if e != api.OK {
			t.Errorf("Mul of %s and %s: error %d", show(c.a), show(c.b), e)
		}
	}
}

func TestMul(t *testing.T) {
	s := source(14)
	for _, d := range degrees() {
		for _, f := range [][2]int{{0, 0}, {1, 3}, {3, 1}, {2, 2}, {d[0], d[1]}, {api.MaxPoly - d[0], 0}, {0, api.MaxPoly - d[1]}} {
			u, v := d[0]+f[0], d[1]+f[1]
			if u > api.MaxPoly || v > api.MaxPoly {
				continue
			}
			a, b := s.net(d[0], d[1]), s.net(f[0], f[1])
			product, e := tensor.Mul(a, b)
			expect(t, "Mul of "+show(a)+" and "+show(b), product, u, v, func(x, y *big.Rat) *big.Rat { return times(value(a, x, y), value(b, x, y)) })
			if e != api.OK {
				t.Fatalf("Mul of the degrees %v and %v: error %d", d, f, e)
			}
		}
	}
}

// TestMulOfTooMuch has factors that are 0, or of lower degrees than the formal ones:
// these alone count.
func TestMulOfTooMuch(t *testing.T) {
	half := api.MaxPoly / 2
	for _, c := range []struct {
		a, b [2]int
		want api.Errno
	}{
		{[2]int{half, 0}, [2]int{half, 0}, api.OK}, {[2]int{0, half}, [2]int{0, half}, api.OK}, {[2]int{half, half}, [2]int{half, half}, api.OK},
		{[2]int{half + 1, 0}, [2]int{half, 0}, api.ErrSize}, {[2]int{half, 0}, [2]int{half + 1, 0}, api.ErrSize},
		{[2]int{0, half + 1}, [2]int{0, half}, api.ErrSize}, {[2]int{0, half}, [2]int{0, half + 1}, api.ErrSize},
		{[2]int{api.MaxPoly, 0}, [2]int{0, api.MaxPoly}, api.OK}, {[2]int{api.MaxPoly, api.MaxPoly}, [2]int{0, 0}, api.OK},
		{[2]int{api.MaxPoly, 3}, [2]int{1, 4}, api.ErrSize}, {[2]int{3, api.MaxPoly}, [2]int{4, 1}, api.ErrSize},
		{[2]int{api.MaxPoly, api.MaxPoly}, [2]int{api.MaxPoly, api.MaxPoly}, api.ErrSize},
	} {
		for _, r := range []api.Rat{{}, rational.Int(2)} {
			product, e := tensor.Mul(constant(c.a[0], c.a[1], r), constant(c.b[0], c.b[1], r))
			want := api.Net{}
			if c.want == api.OK {
				want = constant(c.a[0]+c.b[0], c.a[1]+c.b[1], rational.Mul(r, r))
			}
			if show(product) != show(want) || e != c.want {
				t.Errorf("Mul of the degrees %v and %v: %s, %d", c.a, c.b, show(product), e)
			}
		}
	}
}

func TestScale(t *testing.T) {
	expectText(t, "Scale", show(tensor.Scale(num("-2/3"), net(1, 2, "1 0 3 -6 2 1/2"))), "1 2: -2/3 0 -2 4 -4/3 -1/3")
	expectText(t, "Scale by 0", show(tensor.Scale(api.Rat{}, net(2, 0, "1 0 3"))), "2 0: 0 0 0")
	s := source(15)
	for _, d := range degrees() {
		n, r := s.net(d[0], d[1]), s.number()
		expect(t, "Scale "+show(n), tensor.Scale(r, n), d[0], d[1], func(x, y *big.Rat) *big.Rat { return times(exact(r), value(n, x, y)) })
	}
}

func TestSwap(t *testing.T) {
	expectText(t, "Swap", show(tensor.Swap(net(1, 2, "1 2 3 4 5 6"))), "2 1: 1 4 2 5 3 6")
	expectText(t, "Swap", show(tensor.Swap(net(2, 1, "1 2 3 4 5 6"))), "1 2: 1 3 5 2 4 6")
	expectText(t, "Swap", show(tensor.Swap(net(0, 0, "-1/9"))), "0 0: -1/9")
	s := source(16)
	for _, d := range degrees() {
		n := s.net(d[0], d[1])
		expect(t, "Swap of "+show(n), tensor.Swap(n), d[1], d[0], func(x, y *big.Rat) *big.Rat { return value(n, y, x) })
		expectText(t, "Swap twice", show(tensor.Swap(tensor.Swap(n))), show(n))
	}
}
