package integer_test

import (
	"math"
	"strings"
	"testing"

	"luminaire/api"
	"luminaire/integer"
)

const (
	largest  = math.MaxInt
	smallest = math.MinInt
)

// repeat returns an integer of n equal digits.
func repeat(digit string, n int) api.Int {
	return api.Int(strings.Repeat(digit, n))
}

// power returns 10 to the power of n.
func power(n int) api.Int {
	return "1" + repeat("0", n)
}

type unary func(a api.Int) (api.Int, api.Errno)
type binary func(a, b api.Int) (api.Int, api.Errno)

// unaries returns all functions of one integer. Results that are no integers become texts; "" is the zero value.
func unaries() map[string]unary {
	return map[string]unary{
		"Small":  func(a api.Int) (api.Int, api.Errno) { return asText(integer.Small(a)) },
		"Digits": func(a api.Int) (api.Int, api.Errno) { return asText(integer.Digits(a)) },
		"Sign":   func(a api.Int) (api.Int, api.Errno) { return asText(integer.Sign(a)) },
		"Neg":    integer.Neg,
		"Abs":    integer.Abs,
	}
}

// binaries returns all functions of two integers.
func binaries() map[string]binary {
	return map[string]binary{
		"Compare": func(a, b api.Int) (api.Int, api.Errno) { return asText(integer.Compare(a, b)) },
		"Add":     integer.Add,
		"Sub":     integer.Sub,
		"Mul":     integer.Mul,
		"Quo":     integer.Quo,
		"Rem":     integer.Rem,
		"Gcd":     integer.Gcd,
	}
}

// asText returns an int as a text that is empty for the zero value beside an error.
func asText(n int, e api.Errno) (api.Int, api.Errno) {
	if n == 0 && e != api.OK {
		return "", e
	}
	return integer.Of(n), e
}

// short abbreviates a long text for a message.
func short(a api.Int) string {
	if len(a) > 60 {
		return string(a[:30]) + ".." + string(a[len(a)-20:])
	}
	return string(a)
}

func TestCheck(t *testing.T) {
	long := repeat("1", api.MaxLong)
	tests := []struct {
		a    api.Int
		want api.Errno
	}{
		{"0", api.OK}, {"1", api.OK}, {"-1", api.OK}, {"9", api.OK}, {"10", api.OK}, {"-907", api.OK},
		{"1000000000", api.OK}, {"-123456789012345678901234567890", api.OK},
		{long, api.OK}, {"-" + long, api.OK},
		{long + "1", api.ErrLarge}, {"-" + long + "1", api.ErrLarge}, {repeat("7", 3*api.MaxLong), api.ErrLarge},
		{"", api.ErrForm}, {"-", api.ErrForm}, {"--1", api.ErrForm}, {"1-", api.ErrForm}, {"+1", api.ErrForm},
		{"-0", api.ErrForm}, {"00", api.ErrForm}, {"01", api.ErrForm}, {"-01", api.ErrForm}, {"-00", api.ErrForm},
		{"1.0", api.ErrForm}, {"1/2", api.ErrForm}, {" 1", api.ErrForm}, {"1 ", api.ErrForm}, {"1_000", api.ErrForm},
		{"1e3", api.ErrForm}, {"0x1", api.ErrForm}, {"x", api.ErrForm}, {"1:", api.ErrForm}, {"\x00", api.ErrForm},
		{"\xff1", api.ErrForm}, {"\u0661", api.ErrForm},
		{long + "x", api.ErrForm}, {"0" + long, api.ErrForm}, {"-0" + long, api.ErrForm}, {"x" + long, api.ErrForm},
		{repeat("0", api.MaxLong+1), api.ErrForm}, {long + "-" + long, api.ErrForm},
	}
	for _, test := range tests {
		if e := integer.Check(test.a); e != test.want {
			t.Errorf("Check(%q): got %d, want %d", short(test.a), e, test.want)
		}
	}
}

func TestOf(t *testing.T) {
	tests := []struct {
		n    int
		want api.Int
	}{
		{0, "0"}, {7, "7"}, {-7, "-7"}, {1000000000, "1000000000"}, {-999999999, "-999999999"},
		{largest, "9223372036854775807"}, {smallest, "-9223372036854775808"},
	}
	for _, test := range tests {
		if got := integer.Of(test.n); got != test.want {
			t.Errorf("Of(%d): got %q, want %q", test.n, got, test.want)
		}
	}
}

func TestSmall(t *testing.T) {
	tests := []struct {
		a    api.Int
		want int
		e    api.Errno
	}{
		{"0", 0, api.OK}, {"42", 42, api.OK}, {"-42", -42, api.OK},
		{"9223372036854775807", largest, api.OK}, {"-9223372036854775808", smallest, api.OK},
		{"9223372036854775808", 0, api.ErrRange}, {"-9223372036854775809", 0, api.ErrRange},
		{"18446744073709551616", 0, api.ErrRange}, {repeat("9", api.MaxLong), 0, api.ErrRange},
		{repeat("9", api.MaxLong+1), 0, api.ErrLarge}, {"07", 0, api.ErrForm}, {"", 0, api.ErrForm},
	}
	for _, test := range tests {
		if got, e := integer.Small(test.a); got != test.want || e != test.e {
			t.Errorf("Small(%q): got %d, %d, want %d, %d", short(test.a), got, e, test.want, test.e)
		}
	}
}

func TestDigitsAndSign(t *testing.T) {
	tests := []struct {
		a            api.Int
		digits, sign int
		e            api.Errno
	}{
		{"0", 1, 0, api.OK}, {"9", 1, 1, api.OK}, {"-9", 1, -1, api.OK}, {"10", 2, 1, api.OK},
		{"-1000000000", 10, -1, api.OK}, {repeat("5", api.MaxLong), api.MaxLong, 1, api.OK},
		{"-" + repeat("5", api.MaxLong), api.MaxLong, -1, api.OK},
		{"-0", 0, 0, api.ErrForm}, {repeat("5", api.MaxLong+1), 0, 0, api.ErrLarge},
	}
	for _, test := range tests {
		if got, e := integer.Digits(test.a); got != test.digits || e != test.e {
			t.Errorf("Digits(%q): got %d, %d, want %d, %d", short(test.a), got, e, test.digits, test.e)
		}
		if got, e := integer.Sign(test.a); got != test.sign || e != test.e {
			t.Errorf("Sign(%q): got %d, %d, want %d, %d", short(test.a), got, e, test.sign, test.e)
		}
	}
}

func TestCompare(t *testing.T) {
	ascending := []api.Int{
		"-" + repeat("9", api.MaxLong), "-" + power(api.MaxLong-1), "-1000000001", "-1000000000", "-999999999",
		"-10", "-9", "-1", "0", "1", "2", "10", "999999999", "1000000000", "1000000001", "2000000000",
		"1000000000000000000", "1000000001000000000", power(api.MaxLong - 1), repeat("9", api.MaxLong),
	}
	for i, a := range ascending {
		for j, b := range ascending {
			want := 0
			if i < j {
				want = -1
			} else if i > j {
				want = 1
			}
			if got, e := integer.Compare(a, b); got != want || e != api.OK {
				t.Errorf("Compare(%q, %q): got %d, %d, want %d, 0", short(a), short(b), got, e, want)
			}
		}
	}
}

func TestNegAndAbs(t *testing.T) {
	long := repeat("9", api.MaxLong)
	tests := []struct{ a, neg, abs api.Int }{
		{"0", "0", "0"}, {"1", "-1", "1"}, {"-1", "1", "1"}, {"-1000000000", "1000000000", "1000000000"},
		{"-9223372036854775808", "9223372036854775808", "9223372036854775808"},
		{long, "-" + long, long}, {"-" + long, long, long},
	}
	for _, test := range tests {
		if got, e := integer.Neg(test.a); got != test.neg || e != api.OK {
			t.Errorf("Neg(%q): got %q, %d", short(test.a), short(got), e)
		}
		if got, e := integer.Abs(test.a); got != test.abs || e != api.OK {
			t.Errorf("Abs(%q): got %q, %d", short(test.a), short(got), e)
		}
	}
}

func TestResults(t *testing.T) {
	tests := []struct {
		name       string
		a, b, want api.Int
	}{
		{"Add", "99999999999999999999", "1", "100000000000000000000"},
		{"Add", "0", "0", "0"}, {"Add", "-5", "5", "0"}, {"Add", "5", "-7", "-2"}, {"Add", "-7", "9", "2"},
		{"Add", "999999999", "1", "1000000000"}, {"Add", "-999999999", "-1", "-1000000000"},
		{"Add", "1", "999999999999999999", "1000000000000000000"},
		{"Sub", "0", "0", "0"}, {"Sub", "1000000000000000000", "1", "999999999999999999"}, {"Sub", "3", "10", "-7"},
		{"Sub", "-3", "-10", "7"}, {"Sub", "-3", "10", "-13"}, {"Sub", "1000000000", "999999999", "1"},
		{"Mul", "0", "-7", "0"}, {"Mul", "-7", "0", "0"}, {"Mul", "-3", "-4", "12"}, {"Mul", "3", "-4", "-12"},
		{"Mul", "999999999", "999999999", "999999998000000001"},
		{"Mul", "111111111111", "111111111111", "12345679012320987654321"},
		{"Quo", "7", "-2", "-4"}, {"Rem", "7", "-2", "-1"}, {"Quo", "-7", "2", "-4"}, {"Rem", "-7", "2", "1"},
		{"Quo", "7", "2", "3"}, {"Rem", "7", "2", "1"}, {"Quo", "-7", "-2", "3"}, {"Rem", "-7", "-2", "-1"},
		{"Quo", "6", "-2", "-3"}, {"Rem", "6", "-2", "0"}, {"Quo", "-6", "2", "-3"}, {"Rem", "-6", "2", "0"},
		{"Quo", "0", "-5", "0"}, {"Rem", "0", "-5", "0"}, {"Quo", "1", "-5", "-1"}, {"Rem", "1", "-5", "-4"},
		{"Quo", "1", "1000000000000", "0"}, {"Rem", "1", "1000000000000", "1"},
		{"Quo", "-1", "1000000000000", "-1"}, {"Rem", "-1", "1000000000000", "999999999999"},
		{"Quo", "100000000000000000000", "3", "33333333333333333333"}, {"Rem", "100000000000000000000", "3", "1"},
		{"Quo", "999999999999999999999999999", "1000000000", "999999999999999999"},
		{"Rem", "999999999999999999999999999", "1000000000", "999999999"},
		{"Gcd", "12", "-18", "6"}, {"Gcd", "-12", "-18", "6"}, {"Gcd", "0", "0", "0"}, {"Gcd", "0", "-9", "9"},
		{"Gcd", "-9", "0", "9"}, {"Gcd", "1", power(50), "1"}, {"Gcd", power(50), power(50), power(50)},
		{"Gcd", "-40000000000000000000", "60000000000000000000", "20000000000000000000"},
		{"Gcd", "-" + power(50), "0", power(50)}, {"Gcd", "0", power(50), power(50)},
	}
	for _, test := range tests {
		if got, e := binaries()[test.name](test.a, test.b); got != test.want || e != api.OK {
			t.Errorf("%s(%q, %q): got %q, %d, want %q", test.name, test.a, test.b, got, e, test.want)
		}
	}
}

func TestLimits(t *testing.T) {
	long := repeat("9", api.MaxLong)
	half := power(api.MaxLong / 2)
	below := power(api.MaxLong/2 - 1)
	tests := []struct {
		name       string
		a, b, want api.Int
		e          api.Errno
	}{
		{"Add", long, "1", "", api.ErrLarge}, {"Add", "1", long, "", api.ErrLarge},
		{"Add", "-" + long, "-1", "", api.ErrLarge}, {"Add", long, long, "", api.ErrLarge},
		{"Add", long, "0", long, api.OK}, {"Add", long, "-" + long, "0", api.OK},
		{"Add", repeat("9", api.MaxLong-1), "1", power(api.MaxLong - 1), api.OK},
		{"Sub", long, "-1", "", api.ErrLarge}, {"Sub", "-" + long, "1", "", api.ErrLarge},
		{"Sub", "0", long, "-" + long, api.OK}, {"Sub", power(api.MaxLong - 1), "1", repeat("9", api.MaxLong-1), api.OK},
		{"Mul", half, half, "", api.ErrLarge}, {"Mul", half, "-" + half, "", api.ErrLarge},
		{"Mul", half, below, power(api.MaxLong - 1), api.OK}, {"Mul", "-" + half, below, "-" + power(api.MaxLong-1), api.OK},
		{"Mul", long, long, "", api.ErrLarge}, {"Mul", long, "-1", "-" + long, api.OK}, {"Mul", long, "0", "0", api.OK},
		{"Quo", long, "-1", "-" + long, api.OK}, {"Quo", "-" + long, "1", "-" + long, api.OK},
		{"Quo", long, long, "1", api.OK}, {"Quo", long, "9", repeat("1", api.MaxLong), api.OK},
		{"Quo", "-" + long, "2", "-5" + repeat("0", api.MaxLong-1), api.OK},
		{"Rem", "1", "-" + long, "-" + repeat("9", api.MaxLong-1) + "8", api.OK}, {"Rem", long, long, "0", api.OK},
		{"Gcd", long, "-" + long, long, api.OK}, {"Gcd", long, "0", long, api.OK},
		{"Gcd", long, repeat("9", api.MaxLong/2), repeat("9", api.MaxLong/2), api.OK},
	}
	for _, test := range tests {
		if got, e := binaries()[test.name](test.a, test.b); got != test.want || e != test.e {
			t.Errorf("%s(%q, %q): got %q, %d, want %q, %d",
				test.name, short(test.a), short(test.b), short(got), e, short(test.want), test.e)
		}
	}
}

func TestInvalidArguments(t *testing.T) {
	large := repeat("1", api.MaxLong+1)
	for name, f := range unaries() {
		for a, want := range map[api.Int]api.Errno{"": api.ErrForm, "-0": api.ErrForm, "01": api.ErrForm, large: api.ErrLarge} {
			if got, e := f(a); got != "" || e != want {
				t.Errorf("%s(%q): got %q, %d, want %d and the zero value", name, short(a), got, e, want)
			}
		}
	}
	tests := []struct {
		a, b api.Int
		want api.Errno
	}{
		{"x", "1", api.ErrForm}, {"1", "x", api.ErrForm}, {large, "1", api.ErrLarge}, {"1", large, api.ErrLarge},
		{"x", large, api.ErrForm}, {large, "x", api.ErrLarge}, {"", "0", api.ErrForm}, {"0", "00", api.ErrForm},
		{large, "0", api.ErrLarge}, {"-0", "-0", api.ErrForm}, {"1/2", "2", api.ErrForm},
	}
	for name, f := range binaries() {
		for _, test := range tests {
			if got, e := f(test.a, test.b); got != "" || e != test.want {
				t.Errorf("%s(%q, %q): got %q, %d, want %d and the zero value",
					name, short(test.a), short(test.b), got, e, test.want)
			}
		}
	}
}

func TestDivisionByZero(t *testing.T) {
	for _, name := range []string{"Quo", "Rem"} {
		for _, a := range []api.Int{"0", "5", "-5", repeat("9", api.MaxLong)} {
			if got, e := binaries()[name](a, "0"); got != "" || e != api.ErrZero {
				t.Errorf("%s(%q, 0): got %q, %d, want ErrZero", name, short(a), got, e)
			}
		}
	}
}
