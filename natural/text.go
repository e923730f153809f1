package natural

import (
	"strconv"

	"brepkernel/api"
)

// Decimal digits are read and written in groups, as many at a time as fit in a limb.
const (
	groupDigits = 9
	groupScale  = 1_000_000_000
)

// Text returns a magnitude in decimal.
func Text(a []uint32) string {
	rest := copied(a)
	if len(rest) == 0 {
		return "0"
	}
	var groups []uint32
	for len(rest) > 0 {
		groups = append(groups, divideLimb(rest, groupScale))
		rest = trim(rest)
	}
	last := len(groups) - 1
	out := strconv.AppendUint(nil, uint64(groups[last]), 10)
	for i := last - 1; i >= 0; i-- {
		out = appendGroup(out, groups[i])
	}
	return string(out)
}

// appendGroup appends all digits of a group, with its leading zeros.
func appendGroup(out []byte, group uint32) []byte {
	var digits [groupDigits]byte
	for i := range groupDigits {
		digits[groupDigits-1-i] = '0' + byte(group%10)
		group /= 10
	}
	return append(out, digits[:]...)
}

// Parse reads a magnitude in decimal.
func Parse(s string) ([]uint32, api.Errno) {
	if len(s) > api.MaxText {
		return nil, api.ErrSize
	}
	if !isDigits(s) {
		return nil, api.ErrText
	}
	out := make([]uint32, 0, len(s)/groupDigits+1)
	for len(s) > 0 {
		// The first group is the one that may be short: nothing is scaled before it.
		n := (len(s)-1)%groupDigits + 1
		out = appendLimb(out, groupScale, groupValue(s[:n]))
		s = s[n:]
	}
	return out, api.OK
}

// isDigits reports whether s is one or more decimal digits.
func isDigits(s string) bool {
	for i := range len(s) {
		if s[i] < '0' || s[i] > '9' {
			return false
		}
	}
	return s != ""
}

// groupValue returns the number with these decimal digits.
func groupValue(digits string) uint32 {
	var n uint32
	for i := range len(digits) {
		n = 10*n + uint32(digits[i]-'0')
	}
	return n
}

// appendLimb returns a * scale + plus, in the memory of a if that is long enough.
func appendLimb(a []uint32, scale, plus uint32) []uint32 {
	carry := uint64(plus)
	for i, x := range a {
		carry += uint64(x) * uint64(scale)
		a[i] = uint32(carry)
		carry >>= limbBits
	}
	if carry == 0 {
		return a
	}
	return append(a, uint32(carry))
}
