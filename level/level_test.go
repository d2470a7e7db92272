package level_test

import (
	"math"
	"strings"
	"testing"

	"luminaire/api"
	"luminaire/level"
)

// outside returns ints that are no levels.
func outside() []int {
	return []int{-1, -65535, api.MaxLevel + 1, 1 << 32, math.MinInt, math.MaxInt}
}

func TestCheck(t *testing.T) {
	for _, v := range []int{0, 1, 32768, api.MaxLevel - 1, api.MaxLevel} {
		if e := level.Check(v); e != api.OK {
			t.Errorf("Check(%d): got %d", v, e)
		}
	}
	for _, v := range outside() {
		if e := level.Check(v); e != api.ErrRange {
			t.Errorf("Check(%d): got %d, want ErrRange", v, e)
		}
	}
}

func TestPercent(t *testing.T) {
	tests := []struct {
		text string
		want int
		e    api.Errno
	}{
		{"full", api.MaxLevel, api.OK}, {"100", api.MaxLevel, api.OK}, {"100.0", api.MaxLevel, api.OK}, {"100.000", api.MaxLevel, api.OK},
		{"0", 0, api.OK}, {"0.0", 0, api.OK}, {"0.000", 0, api.OK}, {"0.001", 1, api.OK}, {"0.01", 7, api.OK}, {"0.1", 66, api.OK},
		{"1", 655, api.OK}, {"9", 5898, api.OK}, {"10", 6554, api.OK}, {"99", 64880, api.OK}, {"99.999", 65534, api.OK},
		{"50", 32768, api.OK}, {"50.0", 32768, api.OK}, {"50.00", 32768, api.OK}, {"50.000", 32768, api.OK}, {"49.999", 32767, api.OK},
		{"37.5", 24576, api.OK}, {"37.50", 24576, api.OK}, {"37.05", 24281, api.OK}, {"37.005", 24251, api.OK}, {"12.345", 8090, api.OK},
		{"10.1", 6619, api.OK}, {"30", 19661, api.OK}, {"70", 45875, api.OK},
		{"101", 0, api.ErrRange}, {"100.001", 0, api.ErrRange}, {"100.1", 0, api.ErrRange}, {"999.999", 0, api.ErrRange},
		{"", 0, api.ErrForm}, {".", 0, api.ErrForm}, {"5.", 0, api.ErrForm}, {".5", 0, api.ErrForm}, {"1000", 0, api.ErrForm},
		{"0000", 0, api.ErrForm}, {"00", 0, api.ErrForm}, {"000", 0, api.ErrForm}, {"01", 0, api.ErrForm}, {"050", 0, api.ErrForm},
		{"00.5", 0, api.ErrForm}, {"1.2345", 0, api.ErrForm}, {"1.0000", 0, api.ErrForm}, {"1.2.3", 0, api.ErrForm},
		{"1..2", 0, api.ErrForm}, {"1.2.", 0, api.ErrForm}, {"-1", 0, api.ErrForm}, {"+1", 0, api.ErrForm}, {"-0", 0, api.ErrForm},
		{"1.-2", 0, api.ErrForm}, {"1.+2", 0, api.ErrForm}, {" 1", 0, api.ErrForm}, {"1 ", 0, api.ErrForm}, {"1. 2", 0, api.ErrForm},
		{"1,5", 0, api.ErrForm}, {"50%", 0, api.ErrForm}, {"1e1", 0, api.ErrForm}, {"0x1", 0, api.ErrForm}, {"1_0", 0, api.ErrForm},
		{"1/2", 0, api.ErrForm}, {"9:", 0, api.ErrForm}, {"1./", 0, api.ErrForm}, {"1.:", 0, api.ErrForm},
		{"Full", 0, api.ErrForm}, {"FULL", 0, api.ErrForm}, {"full ", 0, api.ErrForm}, {" full", 0, api.ErrForm}, {"ful", 0, api.ErrForm},
		{"fulll", 0, api.ErrForm}, {"full.0", 0, api.ErrForm}, {"out", 0, api.ErrForm}, {"x", 0, api.ErrForm},
		{"\u0661", 0, api.ErrForm}, {"\xff", 0, api.ErrForm}, {"1\x00", 0, api.ErrForm},
		{"1000.5", 0, api.ErrForm}, {"101.2345", 0, api.ErrForm}, {"999.", 0, api.ErrForm}, {"0999", 0, api.ErrForm},
		{strings.Repeat("9", 100000), 0, api.ErrForm}, {"0." + strings.Repeat("0", 100000), 0, api.ErrForm},
	}
	for _, test := range tests {
		if got, e := level.Percent(test.text); got != test.want || e != test.e {
			t.Errorf("Percent(%.40q): got %d, %d, want %d, %d", test.text, got, e, test.want, test.e)
		}
	}
}

func TestText(t *testing.T) {
	for v, want := range map[int]string{
		0: "0", 1: "0.001", 2: "0.003", 6: "0.009", 7: "0.01", 65: "0.099", 66: "0.1", 328: "0.5", 655: "1", 656: "1.001", 6554: "10",
		16384: "25", 24576: "37.5", 32767: "49.999", 32768: "50", 32769: "50.002", 64880: "99", 65533: "99.997", 65534: "99.998",
		65535: "full",
	} {
		if got, e := level.Text(v); got != want || e != api.OK {
			t.Errorf("Text(%d): got %q, %d, want %q", v, got, e, want)
		}
	}
	for _, v := range outside() {
		if got, e := level.Text(v); got != "" || e != api.ErrRange {
			t.Errorf("Text(%d): got %q, %d, want ErrRange", v, got, e)
		}
	}
}

func TestRawOfComputedLevels(t *testing.T) {
	power := "1" + strings.Repeat("0", api.MaxLong-1)
	long := strings.Repeat("9", api.MaxLong)
	large := api.Rat(long + "9")
	tests := []struct {
		v              api.Rat
		eight, sixteen int
		e              api.Errno
	}{
		{"0", 0, 0, api.OK}, {"1/3", 0, 0, api.OK}, {"1/2", 0, 1, api.OK}, {"499999/1000000", 0, 0, api.OK}, {"1", 0, 1, api.OK},
		{"128", 0, 128, api.OK}, {"256999999/2000000", 0, 128, api.OK}, {"257/2", 1, 129, api.OK}, {"129", 1, 129, api.OK},
		{"257", 1, 257, api.OK}, {"385", 1, 385, api.OK}, {"771/2", 2, 386, api.OK}, {"32768", 128, 32768, api.OK},
		{"65535/2", 128, 32768, api.OK}, {"65534/2", 0, 0, api.ErrForm}, {"131069/2", 255, 65535, api.OK},
		{"65405", 254, 65405, api.OK}, {"65406", 254, 65406, api.OK}, {"130813/2", 255, 65407, api.OK}, {"65407", 255, 65407, api.OK},
		{"65535", 255, 65535, api.OK}, {"65534999/1000", 255, 65535, api.OK},
		{"-1", 0, 0, api.ErrRange}, {"-1/2", 0, 0, api.ErrRange}, {"-1/1000000000000", 0, 0, api.ErrRange}, {"65536", 0, 0, api.ErrRange},
		{"65535000000000001/1000000000000", 0, 0, api.ErrRange}, {"131071/2", 0, 0, api.ErrRange},
		{"9223372036854775808", 0, 0, api.ErrRange}, {"18446744073709551616", 0, 0, api.ErrRange}, {"-18446744073709551616", 0, 0, api.ErrRange},
		{"", 0, 0, api.ErrForm}, {"x", 0, 0, api.ErrForm}, {"2/4", 0, 0, api.ErrForm}, {"3/1", 0, 0, api.ErrForm}, {"-0", 0, 0, api.ErrForm},
		{"1/-2", 0, 0, api.ErrForm}, {"70000/2", 0, 0, api.ErrForm}, {"1.5", 0, 0, api.ErrForm},
		{large, 0, 0, api.ErrLarge}, {"-" + large, 0, 0, api.ErrLarge}, {"1/" + large, 0, 0, api.ErrLarge},
		// The longest numbers, for which nothing else than the form and the range is an error.
		{api.Rat("1/" + power), 0, 0, api.OK}, {api.Rat(power + "/" + long), 0, 0, api.OK},
		{api.Rat("65534" + long[5:] + "/" + power[:api.MaxLong-5]), 0, 0, api.ErrRange},
		{api.Rat("65534" + long[5:] + "/" + power[:api.MaxLong-4]), 255, 65535, api.OK},
		{api.Rat("-1/" + power), 0, 0, api.ErrRange}, {api.Rat(long), 0, 0, api.ErrRange},
		{api.Rat("5" + power[1:] + "/" + long), 0, 1, api.OK},
	}
	for _, test := range tests {
		if got, e := level.Eight(test.v); got != test.eight || e != test.e {
			t.Errorf("Eight(%.40q): got %d, %d, want %d, %d", test.v, got, e, test.eight, test.e)
		}
		if got, e := level.Sixteen(test.v); got != test.sixteen || e != test.e {
			t.Errorf("Sixteen(%.40q): got %d, %d, want %d, %d", test.v, got, e, test.sixteen, test.e)
		}
	}
}

func TestOf(t *testing.T) {
	tests := []struct {
		raw, bits, want int
		e               api.Errno
	}{
		{0, 8, 0, api.OK}, {1, 8, 257, api.OK}, {128, 8, 32896, api.OK}, {254, 8, 65278, api.OK}, {255, 8, api.MaxLevel, api.OK},
		{0, 16, 0, api.OK}, {1, 16, 1, api.OK}, {256, 16, 256, api.OK}, {32768, 16, 32768, api.OK}, {65535, 16, api.MaxLevel, api.OK},
		{-1, 8, 0, api.ErrRange}, {256, 8, 0, api.ErrRange}, {65535, 8, 0, api.ErrRange}, {-1, 16, 0, api.ErrRange},
		{65536, 16, 0, api.ErrRange}, {math.MinInt, 8, 0, api.ErrRange}, {math.MaxInt, 8, 0, api.ErrRange},
		{math.MinInt, 16, 0, api.ErrRange}, {math.MaxInt, 16, 0, api.ErrRange},
	}
	for _, test := range tests {
		if got, e := level.Of(test.raw, test.bits); got != test.want || e != test.e {
			t.Errorf("Of(%d, %d): got %d, %d, want %d, %d", test.raw, test.bits, got, e, test.want, test.e)
		}
	}
	for _, bits := range []int{0, 1, 7, 9, 12, 15, 17, 24, 32, -8, -16, math.MinInt, math.MaxInt} {
		for _, raw := range []int{0, 255, -1, 65536} { // the bits are checked before the raw value
			if got, e := level.Of(raw, bits); got != 0 || e != api.ErrArg {
				t.Errorf("Of(%d, %d): got %d, %d, want ErrArg", raw, bits, got, e)
			}
		}
	}
}

func TestSplitAndJoin(t *testing.T) {
	for _, test := range []struct{ raw, coarse, fine int }{
		{0, 0, 0}, {1, 0, 1}, {255, 0, 255}, {256, 1, 0}, {257, 1, 1}, {513, 2, 1}, {32768, 128, 0}, {32896, 128, 128},
		{65280, 255, 0}, {65534, 255, 254}, {65535, 255, 255},
	} {
		if coarse, fine, e := level.Split(test.raw); coarse != test.coarse || fine != test.fine || e != api.OK {
			t.Errorf("Split(%d): got %d, %d, %d", test.raw, coarse, fine, e)
		}
		if raw, e := level.Join(test.coarse, test.fine); raw != test.raw || e != api.OK {
			t.Errorf("Join(%d, %d): got %d, %d", test.coarse, test.fine, raw, e)
		}
	}
	for _, raw := range outside() {
		if coarse, fine, e := level.Split(raw); coarse != 0 || fine != 0 || e != api.ErrRange {
			t.Errorf("Split(%d): got %d, %d, %d, want ErrRange", raw, coarse, fine, e)
		}
	}
	for _, wrong := range []int{-1, 256, 257, math.MinInt, math.MaxInt} {
		for _, other := range []int{0, 1, 255, wrong} {
			if raw, e := level.Join(wrong, other); raw != 0 || e != api.ErrRange {
				t.Errorf("Join(%d, %d): got %d, %d, want ErrRange", wrong, other, raw, e)
			}
			if raw, e := level.Join(other, wrong); raw != 0 || e != api.ErrRange {
				t.Errorf("Join(%d, %d): got %d, %d, want ErrRange", other, wrong, raw, e)
			}
		}
	}
}

func TestScale(t *testing.T) {
	for _, test := range []struct{ v, by, want int }{
		{0, 0, 0}, {32768, 32768, 16384}, {10, 32768, 5}, {3, 10923, 1}, {3, 10922, 0}, {1, 32767, 0}, {1, 32768, 1}, {2, 16383, 0},
		{2, 16384, 1}, {65534, 65534, 65533}, {65535, 32768, 32768}, {65535, 65535, 65535}, {40000, 13107, 8000},
		{257, 255, 1}, {5, 6553, 0}, {5, 6554, 1}, {15, 2184, 0}, {15, 2185, 1},
	} {
		if got, e := level.Scale(test.v, test.by); got != test.want || e != api.OK {
			t.Errorf("Scale(%d, %d): got %d, %d, want %d", test.v, test.by, got, e, test.want)
		}
	}
	for _, wrong := range outside() {
		for _, other := range []int{0, 1, api.MaxLevel, wrong} {
			if got, e := level.Scale(wrong, other); got != 0 || e != api.ErrRange {
				t.Errorf("Scale(%d, %d): got %d, %d, want ErrRange", wrong, other, got, e)
			}
			if got, e := level.Scale(other, wrong); got != 0 || e != api.ErrRange {
				t.Errorf("Scale(%d, %d): got %d, %d, want ErrRange", other, wrong, got, e)
			}
		}
	}
}
