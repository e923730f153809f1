package homogeneous_test

import (
	"strings"
	"testing"

	"brepkernel/api"
	"brepkernel/homogeneous"
	"brepkernel/rational"
)

// list reads numbers with blanks between them.
func list(text string) []api.Rat {
	var out []api.Rat
	for _, word := range strings.Fields(text) {
		r, e := rational.Parse(word)
		if e != api.OK {
			panic(text)
		}
		out = append(out, r)
	}
	return out
}

func poleOf(text string) api.Pole {
	l := list(text)
	return api.Pole{P: api.Point{l[0], l[1], l[2]}, W: l[3]}
}

func show(list ...api.Rat) string {
	var words []string
	for _, r := range list {
		words = append(words, rational.Text(r))
	}
	return strings.Join(words, " ")
}

func expectText(t *testing.T, what, got, want string) {
	t.Helper()
	if got != want {
		t.Fatalf("%s = %q; expected %q", what, got, want)
	}
}

func TestMake(t *testing.T) {
	got := homogeneous.Make(func(i int) api.Rat { return rational.Int(int64(7 + i)) })
	expectText(t, "Make", show(got[:]...), "7 8 9 10")
}

func TestOfAndPlain(t *testing.T) {
	for pole, want := range map[string]string{
		"1 2 3 1": "1 2 3 1", "0 0 0 5": "0 0 0 5", "1 -2 1/3 3": "3 -6 1 3", "1/2 6 -9 2/3": "1/3 4 -6 2/3", "5 0 7 1/7": "5/7 0 1 1/7",
	} {
		q := homogeneous.Of(poleOf(pole))
		expectText(t, "Of "+pole, show(q[:]...), want)
		p := q.Plain()
		expectText(t, "Plain of "+want, show(p.P[0], p.P[1], p.P[2], p.W), pole)
	}
}

// Plain has memory of its own, also where nothing is to be divided.
func TestPlainIsNew(t *testing.T) {
	for _, text := range []string{"1 2 3 1", "1/3 2/3 3/5 1", "2 4 8 2", "1/2 1/2 1/2 1/2"} {
		q := homogeneous.Pole(list(text))
		p := q.Plain()
		before := show(q[:]...)
		for _, r := range []api.Rat{p.P[0], p.P[1], p.P[2], p.W} {
			clear(r.Num)
			clear(r.Den)
		}
		expectText(t, "coordinates", show(q[:]...), before)
	}
}

func TestBetween(t *testing.T) {
	q, r := homogeneous.Pole(list("0 1 -2 1")), homogeneous.Pole(list("4 1 3 1/2"))
	for share, want := range map[string]string{"0": "0 1 -2 1", "1": "4 1 3 1/2", "1/2": "2 1 1/2 3/4", "1/4": "1 1 -3/4 7/8", "2": "8 1 8 0", "-1": "-4 1 -7 3/2"} {
		got := q.Between(r, list(share)[0])
		expectText(t, "Between at "+share, show(got[:]...), want)
	}
}

func TestSum(t *testing.T) {
	poles := []homogeneous.Pole{homogeneous.Pole(list("0 1 -2 1")), homogeneous.Pole(list("4 1 3 1/2")), homogeneous.Pole(list("1 1 1 1"))}
	for shares, want := range map[string]string{"": "0 0 0 0", "3": "0 3 -6 3", "1/2 1/2": "2 1 1/2 3/4", "1 0 -1": "-1 0 -3 0", "0 2 1/3": "25/3 7/3 19/3 4/3"} {
		got := homogeneous.Sum(list(shares), func(i int) homogeneous.Pole { return poles[i] })
		expectText(t, "Sum with "+shares, show(got[:]...), want)
	}
}
