package vector_test

import (
	"strings"
	"testing"

	"brepkernel/api"
	"brepkernel/rational"
)

// source is a generator of numbers that are the same in every run.
type source uint64

func (s *source) below(n int) int {
	*s = *s*6364136223846793005 + 1442695040888963407
	return int(uint64(*s) >> 33 % uint64(n))
}

// number returns a small integer, often 0, or a fraction, sometimes a long one.
func (s *source) number() api.Rat {
	small, _ := rational.Make(int64(s.below(7)-3), int64(1+s.below(2)*s.below(9)))
	if s.below(5) > 0 {
		return small
	}
	long := rational.Int(int64(s.below(1<<31)) << 31)
	part, _ := rational.Make(int64(s.below(1<<31)), int64(1+s.below(1<<31))<<31)
	return rational.Mul(small, rational.Add(long, part))
}

func (s *source) point() api.Point {
	return api.Point{s.number(), s.number(), s.number()}
}

func (s *source) matrix() [3]api.Point {
	return [3]api.Point{s.point(), s.point(), s.point()}
}

func (s *source) affine() api.Map {
	return api.Map{M: s.matrix(), T: s.point()}
}

func num(text string) api.Rat {
	r, e := rational.Parse(text)
	if e != api.OK {
		panic(text)
	}
	return r
}

// pt reads three numbers with blanks between them.
func pt(text string) api.Point {
	words := strings.Fields(text)
	if len(words) != 3 {
		panic(text)
	}
	return api.Point{num(words[0]), num(words[1]), num(words[2])}
}

func show(p api.Point) string {
	return rational.Text(p[0]) + " " + rational.Text(p[1]) + " " + rational.Text(p[2])
}

func showMap(m api.Map) string {
	return show(m.M[0]) + "; " + show(m.M[1]) + "; " + show(m.M[2]) + "; " + show(m.T)
}

func showBox(b api.Box) string {
	low := api.Point{b[0].Lo, b[1].Lo, b[2].Lo}
	high := api.Point{b[0].Hi, b[1].Hi, b[2].Hi}
	return show(low) + "; " + show(high)
}

func expect(t *testing.T, what, got, want string) {
	t.Helper()
	if got != want {
		t.Fatalf("%s: %s; expected %s", what, got, want)
	}
}

// total returns the sum of products, each of which is a list of factors.
func total(products ...[]api.Rat) api.Rat {
	var sum api.Rat
	for _, factors := range products {
		product := rational.Int(1)
		for _, r := range factors {
			product = rational.Mul(product, r)
		}
		sum = rational.Add(sum, product)
	}
	return sum
}

// permutation is one of the numbers 0, 1, 2 with its sign.
type permutation struct {
	of   [3]int
	sign api.Rat
}

// permutations returns all of them, from which determinants are computed in
// another way than in the program.
func permutations() []permutation {
	even, odd := rational.Int(1), rational.Int(-1)
	return []permutation{
		{[3]int{0, 1, 2}, even}, {[3]int{1, 2, 0}, even}, {[3]int{2, 0, 1}, even},
		{[3]int{0, 2, 1}, odd}, {[3]int{2, 1, 0}, odd}, {[3]int{1, 0, 2}, odd},
	}
}

// determinant returns that of three rows.
func determinant(rows [3]api.Point) api.Rat {
	var sum api.Rat
	for _, s := range permutations() {
		sum = rational.Add(sum, total([]api.Rat{s.sign, rows[0][s.of[0]], rows[1][s.of[1]], rows[2][s.of[2]]}))
	}
	return sum
}
