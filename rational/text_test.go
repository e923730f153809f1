package rational_test

import (
	"math/big"
	"strconv"
	"strings"
	"testing"

	"brepkernel/api"
	"brepkernel/rational"
)

// P2.4

func TestText(t *testing.T) {
	for _, c := range []struct {
		r    api.Rat
		want string
	}{
		{api.Rat{}, "0"}, {api.Rat{Num: []uint32{}, Den: []uint32{}}, "0"}, {of(1, 1), "1"}, {of(-1, 1), "-1"}, {of(6, -4), "-3/2"},
		{of(1, 10), "1/10"}, {of(-1<<63, 1), "-9223372036854775808"}, {rat(twoTo(96)), "79228162514264337593543950336"},
		{rat(twoTo(-96)), "1/79228162514264337593543950336"},
	} {
		if got := rational.Text(c.r); got != c.want {
			t.Errorf("Text(%v) = %s; expected %s", c.r, got, c.want)
		}
	}
}

// P2.5

func TestParse(t *testing.T) {
	for s, want := range map[string]string{
		"0": "0", "-0": "0", "000": "0", "7": "7", "-7": "-7", "007": "7", "-0012": "-12",
		"1/2": "1/2", "-12/8": "-3/2", "12/008": "3/2", "0/5": "0", "-0/5": "0", "8/4": "2", "5/1": "5",
		"0.5": "1/2", "00.50": "1/2", "-1.25": "-5/4", "1.0": "1", "-0.0": "0", "123.456": "15432/125",
		"1e3": "1000", "1E3": "1000", "1e+3": "1000", "1E+3": "1000", "1e-3": "1/1000", "1E-3": "1/1000", "-5e-1": "-1/2",
		"1e0": "1", "1e-0": "1", "1e+00": "1", "1e000": "1", "2e01": "20", "2e001": "20", "0e999": "0", "-0e-999": "0",
		"-1.25e-1": "-1/8", "-1.25e1": "-25/2", "1.25E2": "125", "1.25e+03": "1250", "0.001e003": "1", "2.50e-001": "1/4",
		"18446744073709551616/2": "9223372036854775808", "99999999999999999999.9e1": "999999999999999999999",
	} {
		got, e := rational.Parse(s)
		if rational.Text(got) != want || e != api.OK || !rational.Valid(got) {
			t.Errorf("Parse(%q) = %v, %d; expected %s", s, got, e, want)
		}
	}
}

func TestParseNoNumber(t *testing.T) {
	for _, s := range []string{
		"", "-", "+", "+1", "--1", "- 1", " 1", "1 ", "1\n", "1\x00", "x", "1x", "x1", "0x1", "1_000", "1,5", "\u0663", "1\u0663", "½",
		".", ".5", "-.5", "5.", "-5.", "5.x", "1..2", "1.2.3", "1.-2", "1.+2", "1. 2", "5.e1", ".e1",
		"/", "1/", "/2", "-/2", "1/-2", "1/+2", "1//2", "1/2/3", "1 /2", "1/ 2", "1/2.5", "1.5/2", "1/2e3", "1/2E3", "1e3/2", "1/x", "1/2x",
		"e", "e1", "-e1", "1e", "1E", "1e+", "1e-", "1e+-1", "1e--1", "1e++1", "1e1234", "1e0001", "1e+0001", "1e1.5", "1e1e1", "1e 1", "1e1 ", "1ee1", "1e1x",
		"1.5e", "1.5ex", "1e.5", "nan", "inf", "1f", "/:", "0:", "1.:", "1e/",
		"1/0x", "1/0e5", "1/0.0", // the form is looked at before the denominator
		strings.Repeat("9", api.MaxText-1) + "x", // and before the size of the number
	} {
		if got, e := rational.Parse(s); !isZeroValue(got) || e != api.ErrText {
			t.Errorf("Parse(%.20q) = %v, %d; expected error %d", s, got, e, api.ErrText)
		}
	}
}

func TestParseZeroDenominator(t *testing.T) {
	for _, s := range []string{"1/0", "0/0", "-1/0", "-0/0", "1/000", strings.Repeat("9", 2000) + "/0"} {
		if got, e := rational.Parse(s); !isZeroValue(got) || e != api.ErrZero {
			t.Errorf("Parse(%.20q) = %v, %d; expected error %d", s, got, e, api.ErrZero)
		}
	}
}

func TestParseLongTexts(t *testing.T) {
	for _, c := range []struct {
		s string
		e api.Errno
	}{
		{strings.Repeat("0", api.MaxText), api.OK},
		{strings.Repeat("0", api.MaxText+1), api.ErrSize},
		{"-" + strings.Repeat("0", api.MaxText-1), api.OK},
		{"-" + strings.Repeat("0", api.MaxText), api.ErrSize},
		{strings.Repeat("x", api.MaxText), api.ErrText},
		{strings.Repeat("x", api.MaxText+1), api.ErrSize},
		{"1/" + strings.Repeat("0", api.MaxText-2), api.ErrZero},
		{"1/" + strings.Repeat("0", api.MaxText-1), api.ErrSize},
	} {
		if got, e := rational.Parse(c.s); !isZeroValue(got) || e != c.e {
			t.Errorf("Parse(%.5q of %d bytes) = %v, %d; expected error %d", c.s, len(c.s), got, e, c.e)
		}
	}
}

// The limit is one of the number, not of its text.
func TestParseBits(t *testing.T) {
	greatest := new(big.Int).Sub(twoTo(api.MaxBits).Num(), big.NewInt(1)).String()
	least := twoTo(api.MaxBits).RatString()
	half := twoTo(api.MaxBits - 1).RatString()
	fives := new(big.Int).Exp(big.NewInt(5), big.NewInt(882), nil)
	for _, s := range []string{
		greatest, "-" + greatest, "000" + greatest, "1/" + greatest, greatest + "/" + half, half + "/3",
		least + "/2", "6/" + new(big.Int).Mul(big.NewInt(3), twoTo(api.MaxBits).Num()).String(), // too long, but not in lowest terms
		"0." + strings.Repeat("0", api.MaxText-3) + "0", greatest + "000e-3", "0.0000" + greatest + "E" + strconv.Itoa(len(greatest)+4),
		"1e616", "1e-616", "1." + strings.Repeat("0", 4000) + "e-616", strings.Repeat("0", 4000) + "1e616",
		fives.String() + "e-882", "1" + strings.Repeat("0", 3900) + "e-999",
	} {
		want, ok := new(big.Rat).SetString(s)
		if !ok {
			t.Fatalf("math/big does not read %q", s)
		}
		if want.Num().BitLen() > api.MaxBits || want.Denom().BitLen() > api.MaxBits {
			if got, e := rational.Parse(s); !isZeroValue(got) || e != api.ErrSize {
				t.Errorf("Parse(%.20q of %d bytes) = %v, %d; expected error %d", s, len(s), got, e, api.ErrSize)
			}
			continue
		}
		got, e := rational.Parse(s)
		expect(t, "Parse", got, want)
		if e != api.OK {
			t.Errorf("Parse(%.20q of %d bytes): error %d", s, len(s), e)
		}
	}
	for _, s := range []string{
		least, "-" + least, "1/" + least, "3/" + least, least + "/3", least + ".5", greatest + ".5", greatest + "e1", "1e617", "1e-617", "1e999", "1e-999",
		"0." + strings.Repeat("0", 1000) + "1", strings.Repeat("9", api.MaxText), "0." + strings.Repeat("9", api.MaxText-7) + "e-999",
	} {
		if got, e := rational.Parse(s); !isZeroValue(got) || e != api.ErrSize {
			t.Errorf("Parse(%.20q of %d bytes) = %v, %d; expected error %d", s, len(s), got, e, api.ErrSize)
		}
	}
}

func TestTextAndBack(t *testing.T) {
	s := source(5)
	for range 1000 {
		x := s.number(12)
		text := rational.Text(rat(x))
		if text != x.RatString() {
			t.Fatalf("Text(%v) = %s; expected %s", rat(x), text, x.RatString())
		}
		got, e := rational.Parse(text)
		expect(t, "Parse", got, x)
		if e != api.OK {
			t.Fatalf("Parse(%q): error %d", text, e)
		}
	}
}

func TestParseDecimals(t *testing.T) {
	s := source(6)
	for range 3000 {
		text := strconv.FormatUint(s.next()>>s.below(60), 10)
		if s.below(2) == 0 {
			text = "-" + text
		}
		if s.below(2) == 0 {
			text += "." + strings.Repeat("0", s.below(12)) + strconv.FormatUint(s.next()>>s.below(60), 10)
		}
		if s.below(2) == 0 {
			text += []string{"e", "E", "e+", "E+", "e-", "E-"}[s.below(6)] + strconv.Itoa(s.below(400))
		}
		want, ok := new(big.Rat).SetString(text)
		if !ok {
			t.Fatalf("math/big does not read %q", text)
		}
		got, e := rational.Parse(text)
		if e != api.OK {
			t.Fatalf("Parse(%q): error %d", text, e)
		}
		expect(t, "Parse("+text+")", got, want)
	}
}
