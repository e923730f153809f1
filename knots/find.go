package knots

import (
	"slices"

	"brepkernel/api"
	"brepkernel/numbers"
	"brepkernel/rational"
)

// Times returns how often a number occurs.
func Times(k []api.Rat, t api.Rat) int {
	count := 0
	for _, r := range k {
		if rational.Same(r, t) {
			count++
		}
	}
	return count
}

// Interval returns the index of the interval in which a parameter lies. It is the
// same for all degrees: the end of the last run that begins at or before the
// parameter, where the run of the last knot does not count.
func Interval(k []api.Rat, degree int, t api.Rat) (int, api.Errno) {
	index := -1
	for from, to := range runs(k) {
		if to == len(k) || rational.Cmp(k[from], t) > 0 {
			break
		}
		index = to - 1
	}
	if index < 0 || rational.Cmp(k[len(k)-1], t) < 0 {
		return 0, api.ErrRange
	}
	return index, api.OK
}

// Distinct returns the different knots. The list need not be in order.
func Distinct(k []api.Rat) []api.Rat {
	sorted := slices.Clone(k)
	slices.SortFunc(sorted, rational.Cmp)
	var out []api.Rat
	for from := range runs(sorted) {
		out = append(out, numbers.Copy(sorted[from]))
	}
	return out
}
