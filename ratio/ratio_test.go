package ratio_test

import (
	"math"
	"strings"
	"testing"

	"luminaire/api"
	"luminaire/integer"
	"luminaire/ratio"
)

type unary func(a api.Rat) (api.Rat, api.Errno)
type binary func(a, b api.Rat) (api.Rat, api.Errno)

// unaries returns all functions of one rational number; "" is the zero value of the result.
func unaries() map[string]unary {
	return map[string]unary{
		"Num":   func(a api.Rat) (api.Rat, api.Errno) { n, e := ratio.Num(a); return api.Rat(n), e },
		"Den":   func(a api.Rat) (api.Rat, api.Errno) { n, e := ratio.Den(a); return api.Rat(n), e },
		"Neg":   ratio.Neg,
		"Floor": func(a api.Rat) (api.Rat, api.Errno) { n, e := ratio.Floor(a); return api.Rat(n), e },
		"Round": func(a api.Rat) (api.Rat, api.Errno) { n, e := ratio.Round(a); return api.Rat(n), e },
		"Clamp": func(a api.Rat) (api.Rat, api.Errno) { return ratio.Clamp(a, 0, 9) },
	}
}

// binaries returns all functions of two rational numbers.
func binaries() map[string]binary {
	return map[string]binary{
		"Compare": func(a, b api.Rat) (api.Rat, api.Errno) {
			order, e := ratio.Compare(a, b)
			if order == 0 && e != api.OK {
				return "", e
			}
			return ratio.Whole(order), e
		},
		"Add": ratio.Add,
		"Sub": ratio.Sub,
		"Mul": ratio.Mul,
		"Div": ratio.Div,
		"Min": ratio.Min,
		"Max": ratio.Max,
		"Mix": func(a, b api.Rat) (api.Rat, api.Errno) { return ratio.Mix(a, b, "1/2") },
	}
}

// repeat returns an integer of n equal digits.
func repeat(digit string, n int) api.Rat {
	return api.Rat(strings.Repeat(digit, n))
}

// power returns 10 to the power of n.
func power(n int) api.Rat {
	return "1" + repeat("0", n)
}

// short abbreviates a long text for a message.
func short(a api.Rat) string {
	if len(a) > 60 {
		return string(a[:30]) + ".." + string(a[len(a)-20:])
	}
	return string(a)
}

func TestCheck(t *testing.T) {
	long, large := repeat("1", api.MaxLong), repeat("2", api.MaxLong+1)
	tests := []struct {
		a    api.Rat
		want api.Errno
	}{
		{"0", api.OK}, {"-7", api.OK}, {"22/7", api.OK}, {"-1/3", api.OK}, {"1/2", api.OK}, {"3/1000000000", api.OK},
		{long, api.OK}, {"-" + long, api.OK}, {long + "/2", api.OK}, {"-2/" + long, api.OK}, {"1/" + long, api.OK},
		{power(api.MaxLong-1) + "/" + repeat("9", api.MaxLong), api.OK},
		{"", api.ErrForm}, {"-", api.ErrForm}, {"-0", api.ErrForm}, {"01", api.ErrForm}, {"+1", api.ErrForm}, {"1.5", api.ErrForm},
		{"2/4", api.ErrForm}, {"6/4", api.ErrForm}, {"3/1", api.ErrForm}, {"1/-2", api.ErrForm}, {"1/0", api.ErrForm},
		{"0/3", api.ErrForm}, {"0/1", api.ErrForm}, {"0/0", api.ErrForm}, {"-0/3", api.ErrForm}, {"1/02", api.ErrForm},
		{"01/2", api.ErrForm}, {"1/", api.ErrForm}, {"/2", api.ErrForm}, {"/", api.ErrForm}, {"1//2", api.ErrForm},
		{"1/2/3", api.ErrForm}, {"1/2/", api.ErrForm}, {" 1/2", api.ErrForm}, {"1 /2", api.ErrForm}, {"1/2 ", api.ErrForm},
		{"-2/4", api.ErrForm}, {"1/-1", api.ErrForm}, {"1/--2", api.ErrForm}, {"1/-0", api.ErrForm}, {"x/2", api.ErrForm},
		{"1000000014000000049/1000000007", api.ErrForm},
		{large, api.ErrLarge}, {"-" + large, api.ErrLarge}, {large + "/3", api.ErrLarge}, {"3/" + large, api.ErrLarge},
		{large + "/" + large, api.ErrLarge}, {large + "/2", api.ErrLarge}, {"0/" + large, api.ErrLarge},
		{large + "/1", api.ErrForm}, {large + "/0", api.ErrForm}, {large + "/x", api.ErrForm}, {"x/" + large, api.ErrForm},
		{large + "/-2", api.ErrForm}, {"1/-" + large, api.ErrForm}, {"1/0" + large, api.ErrForm}, {"01/" + large, api.ErrForm},
		{"2/" + large[1:], api.ErrForm},
	}
	for _, test := range tests {
		if e := ratio.Check(test.a); e != test.want {
			t.Errorf("Check(%q): got %d, want %d", short(test.a), e, test.want)
		}
	}
}

func TestOf(t *testing.T) {
	long, large := api.Int(repeat("9", api.MaxLong)), api.Int(repeat("1", api.MaxLong+1))
	tests := []struct {
		num, den api.Int
		want     api.Rat
		e        api.Errno
	}{
		{"6", "-4", "-3/2", api.OK}, {"-12", "-18", "2/3", api.OK}, {"0", "-5", "0", api.OK}, {"0", "1", "0", api.OK},
		{"5", "1", "5", api.OK}, {"5", "-1", "-5", api.OK}, {"-5", "-1", "5", api.OK}, {"8", "4", "2", api.OK},
		{"1", "-1000000000", "-1/1000000000", api.OK}, {"7", "7", "1", api.OK}, {"-7", "7", "-1", api.OK},
		{long, "-" + long, "-1", api.OK}, {"-" + long, "-1", api.Rat(long), api.OK}, {"2", long, "2/" + api.Rat(long), api.OK},
		{"1", "0", "", api.ErrZero}, {"0", "0", "", api.ErrZero}, {long, "0", "", api.ErrZero},
		{"01", "0", "", api.ErrForm}, {"1", "-0", "", api.ErrForm}, {"1/2", "3", "", api.ErrForm}, {"", "1", "", api.ErrForm},
		{large, "0", "", api.ErrLarge}, {"1", large, "", api.ErrLarge},
		{large, "x", "", api.ErrLarge}, {"x", large, "", api.ErrForm},
	}
	for _, test := range tests {
		if got, e := ratio.Of(test.num, test.den); got != test.want || e != test.e {
			t.Errorf("Of(%q, %q): got %q, %d, want %q, %d", short(api.Rat(test.num)), short(api.Rat(test.den)),
				short(got), e, short(test.want), test.e)
		}
	}
}

func TestWholeAndPart(t *testing.T) {
	for n, want := range map[int]api.Rat{0: "0", -40: "-40", 65535: "65535", math.MinInt: "-9223372036854775808"} {
		if got := ratio.Whole(n); got != want {
			t.Errorf("Whole(%d): got %q", n, got)
		}
	}
	tests := []struct {
		num, den int
		want     api.Rat
		e        api.Errno
	}{
		{45, -60, "-3/4", api.OK}, {0, -3, "0", api.OK}, {65535, 2, "65535/2", api.OK}, {-4, -2, "2", api.OK},
		{math.MinInt, math.MinInt, "1", api.OK}, {math.MinInt, -1, "9223372036854775808", api.OK},
		{1, math.MinInt, "-1/9223372036854775808", api.OK}, {1, 0, "", api.ErrZero}, {0, 0, "", api.ErrZero},
	}
	for _, test := range tests {
		if got, e := ratio.Part(test.num, test.den); got != test.want || e != test.e {
			t.Errorf("Part(%d, %d): got %q, %d, want %q, %d", test.num, test.den, got, e, test.want, test.e)
		}
	}
}

func TestNumAndDen(t *testing.T) {
	tests := []struct {
		a        api.Rat
		num, den api.Int
	}{
		{"0", "0", "1"}, {"-3/4", "-3", "4"}, {"7", "7", "1"}, {"-7", "-7", "1"}, {"1/1000000000", "1", "1000000000"},
	}
	for _, test := range tests {
		if got, e := ratio.Num(test.a); got != test.num || e != api.OK {
			t.Errorf("Num(%q): got %q, %d", test.a, got, e)
		}
		if got, e := ratio.Den(test.a); got != test.den || e != api.OK {
			t.Errorf("Den(%q): got %q, %d", test.a, got, e)
		}
	}
}

func TestRounding(t *testing.T) {
	long := repeat("9", api.MaxLong)
	tests := []struct{ a, neg, floor, round api.Rat }{
		{"0", "0", "0", "0"}, {"-6", "6", "-6", "-6"}, {"-3/2", "3/2", "-2", "-1"}, {"5/2", "-5/2", "2", "3"},
		{"-5/2", "5/2", "-3", "-2"}, {"1/2", "-1/2", "0", "1"}, {"-1/2", "1/2", "-1", "0"}, {"1/3", "-1/3", "0", "0"},
		{"-1/3", "1/3", "-1", "0"}, {"2/3", "-2/3", "0", "1"}, {"-2/3", "2/3", "-1", "-1"}, {"4/3", "-4/3", "1", "1"},
		{"-5/3", "5/3", "-2", "-2"}, {"999999999999/1000000000000", "-999999999999/1000000000000", "0", "1"},
		{long, "-" + long, long, long}, {"-" + long, long, "-" + long, "-" + long},
		{long + "/2", "-" + long + "/2", "4" + repeat("9", api.MaxLong-1), "5" + repeat("0", api.MaxLong-1)},
		{power(api.MaxLong-1) + "/" + long, "-" + power(api.MaxLong-1) + "/" + long, "0", "0"},
		{"5" + power(api.MaxLong - 1)[1:] + "/" + long, "-5" + power(api.MaxLong - 1)[1:] + "/" + long, "0", "1"},
		{"1/" + long, "-1/" + long, "0", "0"}, {"-1/" + long, "1/" + long, "-1", "0"},
	}
	for _, test := range tests {
		want := map[string]api.Rat{"Neg": test.neg, "Floor": test.floor, "Round": test.round}
		for name, result := range want {
			if got, e := unaries()[name](test.a); got != result || e != api.OK {
				t.Errorf("%s(%q): got %q, %d, want %q", name, short(test.a), short(got), e, short(result))
			}
		}
	}
}

func TestArithmetic(t *testing.T) {
	tests := []struct{ a, b, sum, difference, product, quotient api.Rat }{
		{"1/6", "1/3", "1/2", "-1/6", "1/18", "1/2"},
		{"1/2", "1/3", "5/6", "1/6", "1/6", "3/2"},
		{"-3/4", "1/4", "-1/2", "-1", "-3/16", "-3"},
		{"5", "5/2", "15/2", "5/2", "25/2", "2"},
		{"0", "-2/7", "-2/7", "2/7", "0", "0"},
		{"3", "-4", "-1", "7", "-12", "-3/4"},
		{"-2/3", "-2/3", "-4/3", "0", "4/9", "1"},
		{"1/1000000000", "1/999999999", "1999999999/999999999000000000", "-1/999999999000000000",
			"1/999999999000000000", "999999999/1000000000"},
	}
	for _, test := range tests {
		want := map[string]api.Rat{"Add": test.sum, "Sub": test.difference, "Mul": test.product, "Div": test.quotient}
		for name, result := range want {
			if got, e := binaries()[name](test.a, test.b); got != result || e != api.OK {
				t.Errorf("%s(%q, %q): got %q, %d, want %q", name, test.a, test.b, got, e, result)
			}
		}
	}
}

func TestDivisionByZero(t *testing.T) {
	for _, a := range []api.Rat{"0", "3", "-1/2", repeat("9", api.MaxLong)} {
		if got, e := ratio.Div(a, "0"); got != "" || e != api.ErrZero {
			t.Errorf("Div(%q, 0): got %q, %d, want ErrZero", short(a), got, e)
		}
	}
}

func TestOrder(t *testing.T) {
	ascending := []api.Rat{
		"-" + repeat("9", 100), "-7/2", "-3", "-5/2", "-1", "-1/2", "-1/3", "0", "1/1000000000", "1/4", "1/3", "2/3", "3/4",
		"1", "1000000001/1000000000", "2", "65535/2", repeat("9", 100),
	}
	for i, a := range ascending {
		for j, b := range ascending {
			want := map[string]api.Rat{"Min": ascending[min(i, j)], "Max": ascending[max(i, j)], "Compare": "0"}
			if i < j {
				want["Compare"] = "-1"
			} else if i > j {
				want["Compare"] = "1"
			}
			for name, result := range want {
				if got, e := binaries()[name](a, b); got != result || e != api.OK {
					t.Errorf("%s(%q, %q): got %q, %d, want %q", name, short(a), short(b), short(got), e, short(result))
				}
			}
		}
	}
}

func TestMix(t *testing.T) {
	tests := []struct{ a, b, w, want api.Rat }{
		{"10", "30", "1/4", "15"}, {"0", "65535", "1/2", "65535/2"}, {"9", "3", "2/3", "5"}, {"4", "4", "17", "4"},
		{"1", "2", "-1", "0"}, {"1/3", "-5/7", "0", "1/3"}, {"1/3", "-5/7", "1", "-5/7"}, {"0", "10", "3/2", "15"},
	}
	for _, test := range tests {
		if got, e := ratio.Mix(test.a, test.b, test.w); got != test.want || e != api.OK {
			t.Errorf("Mix(%q, %q, %q): got %q, %d, want %q", test.a, test.b, test.w, got, e, test.want)
		}
	}
}

func TestClamp(t *testing.T) {
	tests := []struct {
		a         api.Rat
		low, high int
		want      api.Rat
	}{
		{"7/2", 0, 3, "3"}, {"-1/2", 0, 9, "0"}, {"19/2", 0, 9, "9"}, {"9/2", 0, 9, "9/2"}, {"3", 3, 3, "3"},
		{"0", 0, 9, "0"}, {"9", 0, 9, "9"}, {"-7/2", -3, -1, "-3"}, {"0", -3, -1, "-1"}, {"1/2", 5, 5, "5"},
		{"0", math.MinInt, math.MaxInt, "0"}, {repeat("9", 50), math.MinInt, math.MaxInt, "9223372036854775807"},
		{"-" + repeat("9", 50), math.MinInt, math.MaxInt, "-9223372036854775808"},
	}
	for _, test := range tests {
		if got, e := ratio.Clamp(test.a, test.low, test.high); got != test.want || e != api.OK {
			t.Errorf("Clamp(%q, %d, %d): got %q, %d, want %q", test.a, test.low, test.high, got, e, test.want)
		}
	}
}

func TestInvalidArguments(t *testing.T) {
	large := repeat("2", api.MaxLong+1)
	wrong := map[api.Rat]api.Errno{
		"": api.ErrForm, "-0": api.ErrForm, "2/4": api.ErrForm, "3/1": api.ErrForm, "1/-2": api.ErrForm,
		large: api.ErrLarge, large + "/3": api.ErrLarge, "3/" + large: api.ErrLarge, large + "/4": api.ErrLarge,
	}
	for a, want := range wrong {
		for name, f := range unaries() {
			if got, e := f(a); got != "" || e != want {
				t.Errorf("%s(%q): got %q, %d, want %d", name, short(a), short(got), e, want)
			}
		}
		for name, f := range binaries() {
			for _, other := range []api.Rat{"0", "2/3", "x", large} {
				if got, e := f(a, other); got != "" || e != want {
					t.Errorf("%s(%q, %q): got %q, %d, want %d", name, short(a), short(other), short(got), e, want)
				}
			}
			if got, e := f("2/3", a); got != "" || e != want {
				t.Errorf("%s(2/3, %q): got %q, %d, want %d", name, short(a), short(got), e, want)
			}
		}
		if got, e := ratio.Mix("1", "2/3", a); got != "" || e != want {
			t.Errorf("Mix(1, 2/3, %q): got %q, %d, want %d", short(a), short(got), e, want)
		}
	}
}

// TestLargeSteps has arguments for which one of the integers on the way to the result has too many digits, even where
// the result itself has not.
func TestLargeSteps(t *testing.T) {
	long := repeat("9", api.MaxLong)
	tiny := "1/" + power(api.MaxLong-1)
	half := power(api.MaxLong / 2)
	below := power(api.MaxLong/2 - 1)
	tests := []struct {
		name       string
		a, b, want api.Rat
		e          api.Errno
	}{
		{"Add", long, "1", "", api.ErrLarge}, {"Add", long, "-1/3", "", api.ErrLarge}, {"Add", "1/3", long, "", api.ErrLarge},
		{"Add", tiny, tiny, "", api.ErrLarge}, {"Add", "0", tiny, tiny, api.OK}, {"Add", tiny, "1/11", "", api.ErrLarge},
		{"Add", long, "-" + long, "0", api.OK}, {"Add", "1/" + half, "1/" + half, "", api.ErrLarge},
		{"Sub", "-" + long, "1", "", api.ErrLarge}, {"Sub", long, long, "0", api.OK}, {"Sub", tiny, tiny, "", api.ErrLarge},
		{"Sub", tiny, "10", "", api.ErrLarge}, {"Sub", "0", "-" + long, long, api.OK},
		{"Mul", half, half, "", api.ErrLarge}, {"Mul", half, below, power(api.MaxLong - 1), api.OK},
		{"Mul", "1/" + half, "1/" + half, "", api.ErrLarge}, {"Mul", "1/" + half, half, "1", api.OK},
		{"Mul", half + "/3", "3/" + half, "1", api.OK}, {"Mul", long + "/2", "2/" + long, "", api.ErrLarge},
		{"Div", half, "1/" + half, "", api.ErrLarge}, {"Div", "1/" + half, half, "", api.ErrLarge},
		{"Div", half, half, "1", api.OK}, {"Div", long, long, "1", api.OK}, {"Div", "0", tiny, "0", api.OK},
		{"Div", long + "/2", long + "/2", "", api.ErrLarge},
		{"Compare", tiny, tiny, "0", api.OK}, {"Compare", tiny, "10", "", api.ErrLarge}, {"Compare", tiny, "9", "-1", api.OK},
		{"Compare", long, "1/2", "", api.ErrLarge}, {"Compare", "-1/2", long, "", api.ErrLarge},
		{"Compare", long, "-" + long, "1", api.OK},
		{"Min", long, "1/2", "", api.ErrLarge}, {"Max", long, "1/2", "", api.ErrLarge}, {"Max", long, "2", long, api.OK},
		{"Mix", long, "-1", "", api.ErrLarge}, {"Mix", "1/3", tiny, "", api.ErrLarge},
	}
	for _, test := range tests {
		if got, e := binaries()[test.name](test.a, test.b); got != test.want || e != test.e {
			t.Errorf("%s(%q, %q): got %q, %d, want %q, %d",
				test.name, short(test.a), short(test.b), short(got), e, short(test.want), test.e)
		}
	}
}

// TestMixErrors checks the arguments from left to right, and then each of the three operations.
func TestMixErrors(t *testing.T) {
	long, large := repeat("9", api.MaxLong), repeat("1", api.MaxLong+1)
	tests := []struct {
		name    string
		a, b, w api.Rat
		want    api.Errno
	}{
		{"the first argument", "x", large, large, api.ErrForm},
		{"the first argument", large, "x", "x", api.ErrLarge},
		{"the second argument", "1", "x", large, api.ErrForm},
		{"the third argument", long, "-1", "x", api.ErrForm},
		{"the difference", long, "-1", "0", api.ErrLarge},
		{"the product", "0", long, "2", api.ErrLarge},
		{"the sum", "-" + long, "1" + repeat("0", api.MaxLong-2), "1/7", api.ErrLarge},
	}
	for _, test := range tests {
		if got, e := ratio.Mix(test.a, test.b, test.w); got != "" || e != test.want {
			t.Errorf("Mix, %s: got %q, %d, want %d", test.name, short(got), e, test.want)
		}
	}
}

func TestClampErrors(t *testing.T) {
	long := repeat("9", api.MaxLong)
	tiny := "1/" + power(api.MaxLong-1)
	tests := []struct {
		a         api.Rat
		low, high int
		want      api.Errno
	}{
		{"1", 2, 1, api.ErrRange}, {"1", math.MaxInt, math.MinInt, api.ErrRange},
		{tiny, 20, 10, api.ErrRange}, {"x", 1, 2, api.ErrForm}, {long + "9", 1, 2, api.ErrLarge},
		{tiny, 10, 20, api.ErrLarge}, {tiny, -10, 1, api.ErrLarge}, {tiny, 0, 10, api.ErrLarge}, {tiny, 1, 10, api.ErrLarge},
		{tiny, -9, 9, api.OK},
	}
	for _, test := range tests {
		got, e := ratio.Clamp(test.a, test.low, test.high)
		if e != test.want || (e != api.OK && got != "") {
			t.Errorf("Clamp(%q, %d, %d): got %q, %d, want %d", short(test.a), test.low, test.high, short(got), e, test.want)
		}
	}
}

// TestClampChecksItsNumberFirst has low greater than high: only a right number comes as far as ErrRange.
func TestClampChecksItsNumberFirst(t *testing.T) {
	long := repeat("9", api.MaxLong)
	large := long + "9"
	tests := map[api.Rat]api.Errno{
		"": api.ErrForm, "x": api.ErrForm, "-0": api.ErrForm, "01": api.ErrForm, "2/4": api.ErrForm, "3/1": api.ErrForm,
		"1/-2": api.ErrForm, "1/0": api.ErrForm, large + "/1": api.ErrForm, "01/" + large: api.ErrForm,
		large: api.ErrLarge, "-" + large: api.ErrLarge, large + "/2": api.ErrLarge, "1/" + large: api.ErrLarge,
		"0": api.ErrRange, "7": api.ErrRange, "-3/2": api.ErrRange, "1/2": api.ErrRange, long: api.ErrRange,
		"1/" + long: api.ErrRange,
	}
	bounds := []struct{ low, high int }{{0, -1}, {1, 0}, {5, 3}, {20, 10}, {-10, -20}, {math.MaxInt, math.MinInt}}
	for a, want := range tests {
		for _, b := range bounds {
			if got, e := ratio.Clamp(a, b.low, b.high); got != "" || e != want {
				t.Errorf("Clamp(%q, %d, %d): got %q, %d, want %d", short(a), b.low, b.high, short(got), e, want)
			}
		}
	}
}

// TestResultsAreCanonical checks results of all functions again.
func TestResultsAreCanonical(t *testing.T) {
	numbers := []api.Rat{"0", "1", "-1", "2", "-3/2", "5/6", "10/9", "-1/1000000000", "123456789012345678901/7"}
	for _, a := range numbers {
		for name, f := range unaries() {
			if got, e := f(a); e != api.OK || ratio.Check(got) != api.OK {
				t.Errorf("%s(%q): got %q, %d", name, a, got, e)
			}
		}
		for _, b := range numbers {
			for name, f := range binaries() {
				if got, e := f(a, b); e == api.OK && ratio.Check(got) != api.OK {
					t.Errorf("%s(%q, %q): got %q", name, a, b, got)
				}
			}
		}
		if got, _ := ratio.Num(a); integer.Check(got) != api.OK {
			t.Errorf("Num(%q): got %q", a, got)
		}
	}
}
