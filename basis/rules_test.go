package basis_test

import (
	"cmp"
	"fmt"
	"math"
	"math/big"
	"reflect"
	"slices"
	"testing"

	"brepkernel/api"
	"brepkernel/basis"
	"brepkernel/rational"
)

// arguments are those that the functions of the layer take.
type arguments struct {
	K, C, Args    []api.Rat
	T             api.Rat
	Degree, Piece int
}

// result is what a function of the layer returns. What it does not return is zero.
type result struct {
	from int
	list []api.Rat
	e    api.Errno
}

// call is a function of the layer.
type call struct {
	name string
	of   func(x arguments) result
}

func calls() []call {
	listed := func(from int, values []api.Rat, e api.Errno) result { return result{from, values, e} }
	single := func(r api.Rat, e api.Errno) result { return result{0, []api.Rat{r}, e} }
	first := func(k []api.Rat) api.Rat { return append(slices.Clone(k), api.Rat{})[0] }
	last := func(k []api.Rat) api.Rat { return append([]api.Rat{{}}, k...)[len(k)] }
	return []call{
		{"Values", func(x arguments) result { return listed(basis.Values(x.K, x.Degree, x.T)) }},
		{"Values at the first knot", func(x arguments) result { return listed(basis.Values(x.K, x.Degree, first(x.K))) }},
		{"Values at the last knot", func(x arguments) result { return listed(basis.Values(x.K, x.Degree, last(x.K))) }},
		{"Sum", func(x arguments) result { return single(basis.Sum(x.K, x.Degree, x.C, x.T)) }},
		{"Sum at the first knot", func(x arguments) result { return single(basis.Sum(x.K, x.Degree, x.C, first(x.K))) }},
		{"Sum at the last knot", func(x arguments) result { return single(basis.Sum(x.K, x.Degree, x.C, last(x.K))) }},
		{"Blossom", func(x arguments) result { return single(basis.Blossom(x.K, x.Degree, x.C, x.Piece, x.Args)) }},
		{"Blossom of knots", func(x arguments) result {
			return single(basis.Blossom(x.K, x.Degree, x.C, x.Piece, x.K[:max(0, min(x.Degree, len(x.K)))]))
		}},
		{"Blossom of coefficients", func(x arguments) result {
			return single(basis.Blossom(x.K, x.Degree, x.C, x.Piece, x.C[:max(0, min(x.Degree, len(x.C)))]))
		}},
	}
}

// roomy returns a number with limbs behind it that are not its.
func roomy(r api.Rat) api.Rat {
	room := func(a []uint32) []uint32 { return append(slices.Clone(a), 11, 22, 33)[:len(a)] }
	return api.Rat{Neg: r.Neg, Num: room(r.Num), Den: room(r.Den)}
}

// roomyList returns a list with numbers behind it that are not its.
func roomyList(list []api.Rat) []api.Rat {
	var out []api.Rat
	for _, r := range append(slices.Clone(list), num("77"), num("-7/9")) {
		out = append(out, roomy(r))
	}
	return out[:len(list)]
}

// argumentsOf returns arguments with memory of their own.
func argumentsOf(k, c, args []api.Rat, t api.Rat, degree, piece int) arguments {
	return arguments{K: roomyList(k), C: roomyList(c), Args: roomyList(args), T: roomy(t), Degree: degree, Piece: piece}
}

// validArguments returns those for which the functions are promised. The parameter may
// be out of range, the interval may be empty, and lists may have wrong lengths.
func validArguments() []arguments {
	s := source(21)
	var out []arguments
	for _, p := range splines() {
		k, c, args := rats(p.k), rats(p.c), rats(s.list(p.degree))
		for _, x := range slices.Concat(p.parameters()[:1], s.list(2), p.outside()[:1]) {
			out = append(out, argumentsOf(k, c, args, rat(x), p.degree, s.below(len(k)+1)))
		}
		for _, piece := range p.intervals() {
			inside := between(p.k[piece], p.k[piece+1], big.NewRat(3, 8))
			out = append(out, argumentsOf(k, c, args, rat(inside), p.degree, piece))
		}
		out = append(out, argumentsOf(k, c[1:], args[1:], num("1/2"), p.degree, p.degree))
	}
	return out
}

// wrongNumbers returns some numbers that are not valid, and 0.
func wrongNumbers() []api.Rat {
	return []api.Rat{
		{}, {Neg: true}, {Num: []uint32{0}}, {Num: []uint32{5, 0, 0}}, {Den: []uint32{0}}, {Num: []uint32{1}, Den: []uint32{0}},
		{Num: []uint32{1}, Den: []uint32{0, 0, 0, 0}}, {Neg: true, Num: []uint32{0, 0, 0}, Den: []uint32{0, 0, 0}},
		{Num: []uint32{1}, Den: []uint32{1}}, {Den: []uint32{7}}, {Num: []uint32{6}, Den: []uint32{4}}, {Num: []uint32{0, 0, 6}, Den: []uint32{0, 4, 0}},
		{Num: []uint32{1, 2, 3, 0}, Den: []uint32{0, 0, 0, 0, 0}}, {Num: []uint32{0, 0, 0, 0, 0, 1, 0}, Den: []uint32{0, 0, 1, 0}},
	}
}

// wrongKnots returns lists that are not valid for any degree: too short, not in order,
// with numbers that occur too often, or with numbers that are not valid.
func wrongKnots(some func(n int) []api.Rat) [][]api.Rat {
	lists := [][]api.Rat{nil, {}, list("0"), list("0 1"), list("1 0"), list("0 0 0 0"), list("1 1 0 0"), list("0 1 0 1 0 1"), list("2 1 3 0 4 -1 5 -2")}
	for _, r := range wrongNumbers() {
		lists = append(lists, slices.Repeat([]api.Rat{r}, 4), slices.Concat(slices.Repeat([]api.Rat{r}, 3), list("1 2 2 2")))
	}
	for n := range 20 {
		sorted := some(n)
		slices.SortFunc(sorted, rational.Cmp)
		lists = append(lists, some(n), sorted)
	}
	return lists
}

// invalidArguments returns those with knots that are not valid, with numbers that are
// not, and with degrees out of range. The other lists have the lengths that fit.
func invalidArguments() []arguments {
	s := source(22)
	wrong := wrongNumbers()
	some := func(n int) []api.Rat {
		out := rats(s.list(max(0, min(n, 100))))
		for i := range out {
			if s.below(4) == 0 {
				out[i] = wrong[s.below(len(wrong))]
			}
		}
		return out
	}
	lists := wrongKnots(some)
	for _, p := range splines()[:9] {
		lists = append(lists, rats(p.k))
	}
	var out []arguments
	for _, k := range lists {
		for _, degree := range []int{-1, 0, 1, 2, 3, api.MaxDegree, api.MaxDegree + 1, 14, 100, math.MaxInt, math.MaxInt / 2, math.MinInt, math.MinInt + 1} {
			for _, piece := range []int{s.below(len(k) + 1), len(k) / 2, math.MinInt, math.MaxInt} {
				c, args := some(len(k)-degree-1), some(degree)
				out = append(out, argumentsOf(k, c, args, append(some(1), k...)[s.below(1+len(k))], degree, piece))
			}
		}
	}
	return out
}

// region is the memory of a list, from its first element to its capacity.
type region struct{ from, to uintptr }

func regionOf[T any](list []T) region {
	from := reflect.ValueOf(list).Pointer()
	return region{from, from + uintptr(cap(list))*reflect.TypeFor[T]().Size()}
}

// regions returns those of a list of numbers and of their limbs.
func regions(list []api.Rat) []region {
	out := []region{regionOf(list)}
	for _, r := range list {
		out = append(out, regionOf(r.Num), regionOf(r.Den))
	}
	return out
}

// shared reports whether two of the regions have common memory.
func shared(all []region) bool {
	all = slices.DeleteFunc(all, func(r region) bool { return r.from == r.to })
	slices.SortFunc(all, func(a, b region) int { return cmp.Compare(a.from, b.from) })
	for i := 1; i < len(all); i++ {
		if all[i].from < all[i-1].to {
			return true
		}
	}
	return false
}

// snapshot returns all of the arguments, with what lies behind their lists.
func snapshot(x arguments) string {
	text := fmt.Sprint(x)
	for _, r := range slices.Concat(x.K[:cap(x.K)], x.C[:cap(x.C)], x.Args[:cap(x.Args)], []api.Rat{x.T}) {
		text += fmt.Sprint(r, r.Num[:cap(r.Num)], r.Den[:cap(r.Den)])
	}
	return text
}

// R1, R2: no function panics, modifies or retains its arguments, or returns lists
// that share memory, whether or not the arguments are valid.
func TestArgumentsStay(t *testing.T) {
	for _, x := range append(validArguments(), invalidArguments()...) {
		before := snapshot(x)
		// The list with x.T is none of the arguments: a result may get its memory.
		given := slices.Concat(regions(x.K), regions(x.C), regions(x.Args), regions([]api.Rat{x.T})[1:])
		for _, c := range calls() {
			out := c.of(x)
			if shared(slices.Concat(regions(out.list), given)) {
				t.Fatalf("%s: the result shares memory with arguments or with itself: %v", c.name, x)
			}
		}
		if snapshot(x) != before {
			t.Fatalf("a function modifies its arguments %v", x)
		}
	}
}

// R1: no function looks behind the end of a list.
func TestListsWithoutRoom(t *testing.T) {
	for _, x := range append(validArguments(), invalidArguments()...) {
		x.K, x.C, x.Args = slices.Clip(x.K), slices.Clip(x.C), slices.Clip(x.Args)
		for _, c := range calls() {
			c.of(x)
		}
	}
}

// R1: long lists do not take long.
func TestLongLists(t *testing.T) {
	var long []api.Rat
	for i := range 100000 {
		long = append(long, rational.Int(int64(i)))
	}
	for _, degree := range []int{1, api.MaxDegree, 1000, 49000, 99998, math.MaxInt} {
		args := long[:min(degree, len(long))]
		for _, c := range calls() {
			c.of(arguments{K: long, C: long[:max(0, len(long)-degree-1)], Args: args, T: num("50000"), Degree: degree, Piece: 50000})
		}
	}
}

// R2, R3: what is done to a result changes no later one.
func TestResultsAreNew(t *testing.T) {
	for _, x := range validArguments() {
		for _, c := range calls() {
			first := c.of(x)
			before := fmt.Sprint(first)
			for i, r := range first.list {
				clear(r.Num[:cap(r.Num)])
				clear(r.Den[:cap(r.Den)])
				first.list[i] = api.Rat{Neg: true}
			}
			expectText(t, c.name, fmt.Sprint(c.of(x)), before)
		}
	}
}

// R2: a nil list and an empty one are equivalent.
func TestEmptyLists(t *testing.T) {
	filled := func(r api.Rat) api.Rat {
		return api.Rat{Neg: r.Neg, Num: append([]uint32{}, r.Num...), Den: append([]uint32{}, r.Den...)}
	}
	with := func(all []api.Rat) []api.Rat {
		out := []api.Rat{}
		for i, r := range all {
			// Neighbours are filled by turns, so that equal ones are compared.
			if i%2 == 0 {
				r = filled(r)
			}
			out = append(out, r)
		}
		return out
	}
	for _, x := range validArguments() {
		full := arguments{K: with(x.K), C: with(x.C), Args: with(x.Args), T: filled(x.T), Degree: x.Degree, Piece: x.Piece}
		bare := arguments{K: rats(exact(show(x.K...))), C: rats(exact(show(x.C...))), Args: rats(exact(show(x.Args...))), T: num(show(x.T)), Degree: x.Degree, Piece: x.Piece}
		for _, c := range calls() {
			expectText(t, c.name+" with empty lists", fmt.Sprint(c.of(full)), fmt.Sprint(c.of(bare)))
		}
	}
}

// R4, R6: numbers in results are valid, and there are none with an error.
func TestResultsAreValid(t *testing.T) {
	for _, x := range validArguments() {
		for _, c := range calls() {
			out := c.of(x)
			for _, r := range out.list {
				if !rational.Valid(r) || out.e != api.OK && show(r) != "0" {
					t.Fatalf("%s: %v with error %d", c.name, out.list, out.e)
				}
			}
			if out.e != api.OK && out.from != 0 {
				t.Fatalf("%s: from %d on with error %d", c.name, out.from, out.e)
			}
		}
	}
}

// The numbers of curves may have api.MaxBits bits.
func TestLongNumbers(t *testing.T) {
	s := source(23)
	long := func() *big.Rat {
		digits := make([]byte, api.MaxBits/8*2)
		for i := range digits {
			digits[i] = byte(s.below(256))
		}
		half := len(digits) / 2
		return new(big.Rat).SetFrac(new(big.Int).SetBytes(digits[:half]), new(big.Int).SetBytes(digits[half:]))
	}
	p := spline{degree: api.MaxDegree}
	all := []*big.Rat{long(), long(), long(), long(), long()}
	slices.SortFunc(all, (*big.Rat).Cmp)
	p.k = slices.Concat(slices.Repeat(all[:1], p.degree), all, slices.Repeat(all[4:], p.degree))
	for range p.poles() {
		p.c = append(p.c, long())
	}
	x := between(all[1], all[2], big.NewRat(1, 3))
	from, values, _ := basis.Values(rats(p.k), p.degree, rat(x))
	expect(t, "Values of long knots", values, p.functions(p.interval(x), x)[from:from+p.degree+1])
	sum, _ := basis.Sum(rats(p.k), p.degree, rats(p.c), rat(x))
	expect(t, "Sum of long numbers", []api.Rat{sum}, []*big.Rat{p.polynomial(p.interval(x), x)})
	got := blossom(t, p, p.interval(x), p.k[p.degree-1:2*p.degree-1])
	expect(t, "Blossom of long knots", []api.Rat{got}, p.c[p.degree-2:p.degree-1])
}
