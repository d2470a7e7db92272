package number_test

import (
	"math"
	"slices"
	"strings"
	"testing"

	"luminaire/api"
	"luminaire/number"
)

// wrong returns texts that are no numbers, each with its error.
func wrong() map[string]api.Errno {
	return map[string]api.Errno{
		"": api.ErrForm, ".": api.ErrForm, "1.": api.ErrForm, ".5": api.ErrForm, "0.": api.ErrForm, "..": api.ErrForm,
		"01": api.ErrForm, "00": api.ErrForm, "00.5": api.ErrForm, "01.5": api.ErrForm, "0001": api.ErrForm,
		"1.50": api.ErrForm, "1.0": api.ErrForm, "0.0": api.ErrForm, "0.000": api.ErrForm, "0.10": api.ErrForm,
		"1.2.3": api.ErrForm, "1..2": api.ErrForm, "1.2.": api.ErrForm, ".1.2": api.ErrForm,
		"-1": api.ErrForm, "+1": api.ErrForm, "-0": api.ErrForm, "1.-2": api.ErrForm, "1.+2": api.ErrForm,
		" 1": api.ErrForm, "1 ": api.ErrForm, "1. 2": api.ErrForm, " ": api.ErrForm, "1\n": api.ErrForm,
		"x": api.ErrForm, "1x": api.ErrForm, "x1": api.ErrForm, "1.x": api.ErrForm, "1.2x": api.ErrForm, "1e1": api.ErrForm,
		"0x1": api.ErrForm, "1_0": api.ErrForm, "1,5": api.ErrForm, "1/2": api.ErrForm, "9:": api.ErrForm, "1./": api.ErrForm,
		"1.:": api.ErrForm, "\u0661": api.ErrForm, "1.\u0661": api.ErrForm, "\xff": api.ErrForm, "1\x00": api.ErrForm,
		// The form comes before the range.
		"010000": api.ErrForm, "10000.": api.ErrForm, "10000.0": api.ErrForm, "1.00010": api.ErrForm, "1.0000": api.ErrForm,
		"0.0000": api.ErrForm, "12345x": api.ErrForm, "1.0001x": api.ErrForm, "x10000": api.ErrForm,
		strings.Repeat("9", 100000) + ".": api.ErrForm, "0." + strings.Repeat("0", 100000): api.ErrForm,
		"0" + strings.Repeat("9", 100000): api.ErrForm,

		"0": api.ErrRange, "10000": api.ErrRange, "12345": api.ErrRange, "99999.9": api.ErrRange, "10000.5": api.ErrRange,
		"1.0001": api.ErrRange, "0.0001": api.ErrRange, "0.0005": api.ErrRange, "9999.9999": api.ErrRange, "10000.0001": api.ErrRange,
		"18446744073709551617":      api.ErrRange, // 1 behind the wraparound
		"0.18446744073709551617":    api.ErrRange,
		strings.Repeat("9", 100000): api.ErrRange, "0." + strings.Repeat("0", 100000) + "1": api.ErrRange,
	}
}

func TestNumbers(t *testing.T) {
	for s, n := range map[string]int{
		"1": 1000, "9": 9000, "10": 10000, "12": 12000, "100": 100000, "1000": 1000000, "9999": 9999000,
		"0.5": 500, "12.5": 12500, "12.125": 12125, "1.05": 1050, "1.005": 1005, "1.25": 1250, "10.1": 10100,
		"0.001": 1, "0.002": 2, "0.01": 10, "0.011": 11, "0.1": 100, "0.101": 101, "0.999": 999, "1.001": 1001,
		"9999.999": 9999999, "9999.9": 9999900, "9998.999": 9998999,
	} {
		if e := number.Check(s); e != api.OK {
			t.Errorf("Check(%q): got %d", s, e)
		}
		if got, e := number.Thousandths(s); got != n || e != api.OK {
			t.Errorf("Thousandths(%q): got %d, %d, want %d", s, got, e, n)
		}
		if got, e := number.Of(n); got != s || e != api.OK {
			t.Errorf("Of(%d): got %q, %d, want %q", n, got, e, s)
		}
	}
}

func TestOfNoThousandths(t *testing.T) {
	for _, n := range []int{0, -1, -1000, 10000000, 10000001, 1 << 32, 1<<32 + 1000, math.MinInt, math.MaxInt} {
		if got, e := number.Of(n); got != "" || e != api.ErrRange {
			t.Errorf("Of(%d): got %q, %d, want ErrRange", n, got, e)
		}
	}
}

func TestWrongTexts(t *testing.T) {
	for s, want := range wrong() {
		if e := number.Check(s); e != want {
			t.Errorf("Check(%.40q): got %d, want %d", s, e, want)
		}
		if got, e := number.Thousandths(s); got != 0 || e != want {
			t.Errorf("Thousandths(%.40q): got %d, %d, want %d", s, got, e, want)
		}
		if got, e := number.After(s); got != "" || e != want {
			t.Errorf("After(%.40q): got %q, %d, want %d", s, got, e, want)
		}
		if e := number.Ascending([]string{s}); e != want {
			t.Errorf("Ascending of %.40q: got %d, want %d", s, e, want)
		}
	}
}

// TestWrongPairs checks that the first of two wrong texts gives the error, and that this one comes before all others.
func TestWrongPairs(t *testing.T) {
	type pair struct {
		a, b string
		want api.Errno
	}
	pairs := []pair{{"x", "0", api.ErrForm}, {"0", "x", api.ErrRange}, {"0", "0", api.ErrRange}, {"", "", api.ErrForm}}
	for s, want := range wrong() {
		pairs = append(pairs, pair{s, "1", want}, pair{"1", s, want}, pair{"9999.999", s, want}, pair{s, "0.001", want})
	}
	for _, p := range pairs {
		if got, e := number.Compare(p.a, p.b); got != 0 || e != p.want {
			t.Errorf("Compare(%.40q, %.40q): got %d, %d, want %d", p.a, p.b, got, e, p.want)
		}
		if got, e := number.Between(p.a, p.b); got != "" || e != p.want {
			t.Errorf("Between(%.40q, %.40q): got %q, %d, want %d", p.a, p.b, got, e, p.want)
		}
	}
}

// ascending returns numbers whose order is not that of their texts or of their lengths.
func ascending() []string {
	return []string{"0.001", "0.002", "0.01", "0.09", "0.1", "0.5", "0.999", "1", "1.001", "1.05", "1.1", "1.11", "1.2", "1.999",
		"2", "9", "9.5", "10", "11", "99.999", "100", "999", "1000", "9998.999", "9999", "9999.9", "9999.999"}
}

func TestCompare(t *testing.T) {
	for i, a := range ascending() {
		for j, b := range ascending() {
			want := 0
			if i < j {
				want = -1
			} else if i > j {
				want = 1
			}
			if got, e := number.Compare(a, b); got != want || e != api.OK {
				t.Errorf("Compare(%q, %q): got %d, %d, want %d", a, b, got, e, want)
			}
			if i < j {
				continue
			}
			if got, e := number.Between(a, b); got != "" || e != api.ErrOrder {
				t.Errorf("Between(%q, %q): got %q, %d, want ErrOrder", a, b, got, e)
			}
		}
	}
}

func TestBetween(t *testing.T) {
	tests := []struct {
		a, b, want string
		e          api.Errno
	}{
		{"1", "2", "1.1", api.OK}, {"1", "3", "2", api.OK}, {"1.9", "2.1", "2", api.OK}, {"1.98", "2", "1.99", api.OK},
		{"1", "9999", "2", api.OK}, {"1.5", "9", "2", api.OK}, {"1.999", "2.001", "2", api.OK}, {"0.001", "9999.999", "1", api.OK},
		{"1", "1.1", "1.01", api.OK}, {"1", "1.01", "1.001", api.OK}, {"1", "1.002", "1.001", api.OK}, {"1", "1.2", "1.1", api.OK},
		{"1.1", "1.2", "1.11", api.OK}, {"1.19", "1.2", "1.191", api.OK}, {"1.1", "1.101", "", api.ErrEmpty},
		{"1.099", "1.101", "1.1", api.OK}, {"1.95", "2", "1.96", api.OK}, {"1.9", "2", "1.91", api.OK}, {"1.85", "2", "1.9", api.OK},
		{"1.998", "2", "1.999", api.OK}, {"1.001", "1.002", "", api.ErrEmpty}, {"1.999", "2", "", api.ErrEmpty},
		{"2", "2.001", "", api.ErrEmpty}, {"0.001", "0.002", "", api.ErrEmpty}, {"0.001", "0.003", "0.002", api.OK},
		{"0.001", "0.5", "0.1", api.OK}, {"0.001", "1", "0.1", api.OK}, {"0.001", "0.1", "0.01", api.OK}, {"0.5", "1.001", "1", api.OK},
		{"9999", "9999.999", "9999.1", api.OK}, {"9999.9", "9999.999", "9999.91", api.OK}, {"9999.99", "9999.999", "9999.991", api.OK},
		{"9999.998", "9999.999", "", api.ErrEmpty}, {"9998.5", "9999.999", "9999", api.OK}, {"9", "11", "10", api.OK},
		{"2", "2", "", api.ErrOrder}, {"3", "2", "", api.ErrOrder}, {"10", "9", "", api.ErrOrder}, {"1.002", "1.001", "", api.ErrOrder},
	}
	for _, test := range tests {
		if got, e := number.Between(test.a, test.b); got != test.want || e != test.e {
			t.Errorf("Between(%q, %q): got %q, %d, want %q, %d", test.a, test.b, got, e, test.want, test.e)
		}
	}
}

func TestAfter(t *testing.T) {
	tests := []struct {
		s, want string
		e       api.Errno
	}{
		{"12.5", "13", api.OK}, {"12", "13", api.OK}, {"0.5", "1", api.OK}, {"0.001", "1", api.OK}, {"0.999", "1", api.OK},
		{"1", "2", api.OK}, {"9", "10", api.OK}, {"99.999", "100", api.OK}, {"9998", "9999", api.OK}, {"9998.999", "9999", api.OK},
		{"9999", "", api.ErrRange}, {"9999.001", "", api.ErrRange}, {"9999.999", "", api.ErrRange},
	}
	for _, test := range tests {
		if got, e := number.After(test.s); got != test.want || e != test.e {
			t.Errorf("After(%q): got %q, %d, want %q, %d", test.s, got, e, test.want, test.e)
		}
	}
}

func TestAscending(t *testing.T) {
	tests := []struct {
		name string
		l    []string
		want api.Errno
	}{
		{"nothing", nil, api.OK}, {"nothing", []string{}, api.OK}, {"one", []string{"0.001"}, api.OK}, {"all", ascending(), api.OK},
		{"equal", []string{"1", "1"}, api.ErrOrder}, {"descending", []string{"2", "1"}, api.ErrOrder},
		{"descending texts only", []string{"9", "10"}, api.OK}, {"ascending texts only", []string{"10", "9"}, api.ErrOrder},
		{"the last one is not greater", []string{"1", "2", "3", "3"}, api.ErrOrder},
		{"less than the one before, but not the first", []string{"1", "3", "2"}, api.ErrOrder},
		{"the order before a later form", []string{"2", "1", "x"}, api.ErrOrder},
		{"the form before a later order", []string{"1", "x", "1"}, api.ErrForm},
		{"the form before its order", []string{"5", "01"}, api.ErrForm},
		{"the range before its order", []string{"5", "0"}, api.ErrRange},
		{"the range before a later form", []string{"1", "10000", "x"}, api.ErrRange},
		{"the form before a later range", []string{"1", "x", "10000"}, api.ErrForm},
		{"the last one is wrong", append(ascending(), ""), api.ErrForm},
	}
	for _, test := range tests {
		before := slices.Clone(test.l)
		if e := number.Ascending(test.l); e != test.want {
			t.Errorf("Ascending, %s: got %d, want %d", test.name, e, test.want)
		}
		if !slices.Equal(test.l, before) {
			t.Errorf("Ascending, %s: the texts have become %q", test.name, test.l)
		}
	}
}
