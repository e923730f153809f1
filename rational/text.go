package rational

import (
	"strconv"
	"strings"

	"brepkernel/api"
	"brepkernel/natural"
)

// maxExponentDigits is the greatest number of digits of a power of 10.
const maxExponentDigits = 3

// Text returns a number as text.
func Text(r api.Rat) string {
	out := natural.Text(r.Num)
	if r.Neg {
		out = "-" + out
	}
	if len(r.Den) > 0 {
		out += "/" + natural.Text(r.Den)
	}
	return out
}

// Parse reads a number.
func Parse(s string) (api.Rat, api.Errno) {
	if len(s) > api.MaxText {
		return api.Rat{}, api.ErrSize
	}
	f, ok := formOf(s)
	if !ok {
		return api.Rat{}, api.ErrText
	}
	r, e := f.number()
	switch {
	case e != api.OK:
		return api.Rat{}, e
	case Bits(r) > api.MaxBits:
		return api.Rat{}, api.ErrSize
	}
	return r, api.OK
}

// notation is a number as it is written: digits / den * 10^power.
type notation struct {
	neg         bool
	digits, den string
	power       int
}

// formOf divides a text into its parts, and reports whether it has one of the
// forms of numbers.
func formOf(s string) (notation, bool) {
	f := notation{den: "1"}
	s, f.neg = strings.CutPrefix(s, "-")
	f.digits, s = cutDigits(s)
	if f.digits == "" {
		return f, false
	}
	if rest, ok := strings.CutPrefix(s, "/"); ok {
		f.den, rest = cutDigits(rest)
		return f, f.den != "" && rest == ""
	}
	if rest, ok := strings.CutPrefix(s, "."); ok {
		var behind string
		behind, s = cutDigits(rest)
		if behind == "" {
			return f, false
		}
		f.digits += behind
		f.power = -len(behind)
	}
	power, ok := exponent(s)
	f.power += power
	return f, ok
}

// cutDigits divides a text behind the decimal digits with which it begins.
func cutDigits(s string) (digits, rest string) {
	for i := range len(s) {
		if s[i] < '0' || s[i] > '9' {
			return s[:i], s[i:]
		}
	}
	return s, ""
}

// exponent returns the power of 10 that stands at the end of a number: 0 if
// there is no text at all.
func exponent(s string) (int, bool) {
	if s == "" {
		return 0, true
	}
	if s[0] != 'E' && s[0] != 'e' {
		return 0, false
	}
	s, negative := strings.CutPrefix(s[1:], "-")
	if !negative {
		s = strings.TrimPrefix(s, "+")
	}
	digits, rest := cutDigits(s)
	if digits == "" || len(digits) > maxExponentDigits || rest != "" {
		return 0, false
	}
	n, _ := strconv.Atoi(digits)
	if negative {
		n = -n
	}
	return n, true
}

// number returns the number that is written.
func (f notation) number() (api.Rat, api.Errno) {
	num, _ := natural.Parse(f.digits)
	den, _ := natural.Parse(f.den)
	if len(den) == 0 {
		return api.Rat{}, api.ErrZero
	}
	if f.power < 0 {
		den = times(den, tenTo(-f.power))
	} else {
		num = times(num, tenTo(f.power))
	}
	return lowest(f.neg, num, den), api.OK
}

// tenTo returns a power of 10, as one of 5 that is shifted.
func tenTo(n int) []uint32 {
	five, power := natural.Of(5), natural.Of(1)
	for rest := n; rest > 0; rest /= 2 {
		if rest%2 == 1 {
			power = natural.Mul(power, five)
		}
		five = natural.Mul(five, five)
	}
	out, _ := natural.Shift(power, n)
	return out
}
