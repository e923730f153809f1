package numbers_test

import (
	"math/big"
	"slices"
	"strings"
	"testing"

	"brepkernel/api"
	"brepkernel/numbers"
	"brepkernel/rational"
)

func num(text string) api.Rat {
	r, e := rational.Parse(text)
	if e != api.OK {
		panic(text)
	}
	return r
}

// list reads numbers with blanks between them.
func list(text string) []api.Rat {
	var out []api.Rat
	for _, word := range strings.Fields(text) {
		out = append(out, num(word))
	}
	return out
}

func show(c []api.Rat) string {
	var words []string
	for _, r := range c {
		words = append(words, rational.Text(r))
	}
	return strings.Join(words, " ")
}

// A copy is the same limb by limb, also of a number that is not valid.
func TestCopy(t *testing.T) {
	for _, r := range append(list("0 7 -1/3 18446744073709551617/18446744073709551616"), api.Rat{Neg: true}, api.Rat{Num: []uint32{5, 0}, Den: []uint32{0}}) {
		got := numbers.Copy(r)
		if got.Neg != r.Neg || !slices.Equal(got.Num, r.Num) || !slices.Equal(got.Den, r.Den) {
			t.Errorf("Copy(%v) = %v", r, got)
		}
	}
}

// A copy of a pole has the same numbers, and limbs of its own.
func TestCopyPole(t *testing.T) {
	l := list("7 -1/3 0 18446744073709551617")
	p := api.Pole{P: api.Point{l[0], l[1], l[2]}, W: l[3]}
	got := numbers.CopyPole(p)
	all := []api.Rat{got.P[0], got.P[1], got.P[2], got.W}
	if show(all) != show(l) {
		t.Errorf("CopyPole = %s", show(all))
	}
	for _, r := range all {
		clear(r.Num)
		clear(r.Den)
	}
	if show([]api.Rat{p.P[0], p.P[1], p.P[2], p.W}) != "7 -1/3 0 18446744073709551617" {
		t.Errorf("CopyPole has the limbs of the pole")
	}
}

func TestEach(t *testing.T) {
	lengths := numbers.Each([]string{"", "a", "abc"}, func(s string) int { return len(s) })
	if !slices.Equal(lengths, []int{0, 1, 3}) || len(numbers.Each(nil, func(r api.Rat) string { return "" })) != 0 {
		t.Errorf("Each = %v", lengths)
	}
}

func TestWhole(t *testing.T) {
	for _, c := range []struct{ list, whole, scale string }{
		{"", "", "1"}, {"0", "0", "1"}, {"3 -4", "3 -4", "1"}, {"1/2", "1", "2"}, {"-1/2 1/3 5", "-3 2 30", "6"},
		{"1/4 1/6 0", "3 2 0", "12"}, {"1/6 1/4", "2 3", "12"}, {"2/3 4/3", "2 4", "3"},
		{"1/18446744073709551616 1/6", "3 9223372036854775808", "55340232221128654848"},
	} {
		whole, scale := numbers.Whole(list(c.list))
		if show(whole) != c.whole || rational.Text(scale) != c.scale {
			t.Errorf("Whole(%s) = %s; %s", c.list, show(whole), rational.Text(scale))
		}
	}
}

func TestDenominator(t *testing.T) {
	for text, want := range map[string]string{"0": "1", "7": "1", "-3/4": "4", "1/18446744073709551616": "18446744073709551616"} {
		if got := numbers.Denominator(num(text)); rational.Text(got) != want || !rational.Valid(got) {
			t.Errorf("Denominator(%s) = %v", text, got)
		}
	}
}

func TestOver(t *testing.T) {
	for _, c := range [][3]string{{"1", "3", "1/3"}, {"-3/2", "1/2", "-3"}, {"0", "-5", "0"}, {"5", "0", "0"}, {"0", "0", "0"}} {
		if got := numbers.Over(num(c[0]), num(c[1])); rational.Text(got) != c[2] {
			t.Errorf("Over(%s; %s) = %s", c[0], c[1], rational.Text(got))
		}
	}
}

func TestShare(t *testing.T) {
	for _, c := range [][4]string{{"0", "1", "1/3", "1/3"}, {"2", "4", "3", "1/2"}, {"2", "4", "2", "0"}, {"2", "4", "4", "1"}, {"-1", "1/2", "5", "4"}, {"1", "3", "0", "-1/2"}, {"3", "1", "5/2", "1/4"}, {"2", "2", "3", "0"}} {
		if got := numbers.Share(num(c[0]), num(c[1]), num(c[2])); rational.Text(got) != c[3] {
			t.Errorf("Share(%s; %s; %s) = %s", c[0], c[1], c[2], rational.Text(got))
		}
	}
}

func TestBinomials(t *testing.T) {
	for n := range api.MaxPoly + 1 {
		row := numbers.Binomials(n)
		if len(row) != n+1 {
			t.Fatalf("Binomials(%d) are %d", n, len(row))
		}
		for i, r := range row {
			if want := new(big.Int).Binomial(int64(n), int64(i)).String(); rational.Text(r) != want {
				t.Errorf("Binomials(%d)[%d] = %s; expected %s", n, i, rational.Text(r), want)
			}
		}
	}
}

// Layers return what these functions return: so it must not share memory.
func TestResultsAreNew(t *testing.T) {
	scribble := func(c ...api.Rat) {
		for _, r := range c {
			for _, limbs := range [][]uint32{r.Num, r.Den} {
				for i := range limbs {
					limbs[i] = 0xdead
				}
			}
		}
	}
	arguments := list("1/3 5 1/3 -2 7/30")
	before := show(arguments)
	whole, scale := numbers.Whole(arguments)
	scribble(whole...)
	scribble(scale)
	for _, r := range arguments {
		scribble(numbers.Copy(r), numbers.Denominator(r), numbers.Over(r, rational.Int(1)), numbers.Share(api.Rat{}, rational.Int(1), r))
	}
	scribble(numbers.Binomials(4)...)
	if show(arguments) != before || show(numbers.Binomials(4)) != "1 4 6 4 1" {
		t.Errorf("%s has become %s", before, show(arguments))
	}
}
