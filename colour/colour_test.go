package colour_test

import (
	"math"
	"slices"
	"testing"

	"luminaire/api"
	"luminaire/colour"
)

const (
	full = api.MaxLevel

	red     = api.AttrRed
	green   = api.AttrGreen
	blue    = api.AttrBlue
	white   = api.AttrWhite
	amber   = api.AttrAmber
	cyan    = api.AttrCyan
	magenta = api.AttrMagenta
	yellow  = api.AttrYellow
)

// ints returns the ints that it is given.
func ints(l ...int) []int { return l }

func lamps() []int { return ints(red, green, blue) }
func dyes() []int  { return ints(cyan, magenta, yellow) }
func every() []int { return ints(red, green, blue, white, amber, cyan, magenta, yellow) }

// noLevels returns ints that are no levels.
func noLevels() []int {
	return ints(-1, full+1, full+1+1<<32, math.MinInt, math.MaxInt)
}

// noPrimaries returns ints that are no attributes from AttrRed to AttrYellow.
func noPrimaries() []int {
	return ints(-1, api.AttrIntensity, api.AttrTilt, api.AttrGobo, api.AttrFocus, api.Attrs, api.Attrs+1, red+1<<32, red-1<<32, math.MinInt, math.MaxInt)
}

func TestRightPalettes(t *testing.T) {
	for _, l := range [][]int{
		lamps(), dyes(), every(), ints(blue, red, green), ints(yellow, magenta, cyan), ints(white, blue, amber, red, green), ints(red, cyan, magenta, green, yellow),
		ints(red, green, blue, cyan), append(dyes(), white, amber), append(dyes(), red, green),
	} {
		if e := colour.Check(l); e != api.OK {
			t.Errorf("Check(%v): got %d", l, e)
		}
	}
}

// wrong is a list of attributes that make no colour, with the error of Check.
type wrong struct {
	attrs []int
	want  api.Errno
}

func wrongPalettes() []wrong {
	l := []wrong{
		{make([]int, api.Attrs+1), api.ErrMany}, {append(every(), every()...), api.ErrMany}, {make([]int, 1<<16), api.ErrMany}, {slices.Repeat(ints(-1), api.Attrs+1), api.ErrMany},
		{make([]int, api.Attrs), api.ErrArg}, {slices.Repeat(ints(red), api.Attrs), api.ErrTwice}, {append(every(), every()[:api.Attrs-8]...), api.ErrTwice},
		{ints(red, green, blue, red), api.ErrTwice}, {ints(cyan, cyan), api.ErrTwice}, {ints(red, green, blue, white, white), api.ErrTwice}, {ints(amber, red, green, amber, blue), api.ErrTwice},
		{ints(red, red, api.AttrPan), api.ErrTwice}, {ints(red, api.AttrPan, red), api.ErrArg}, {ints(api.AttrPan, api.AttrPan), api.ErrArg},
		{nil, api.ErrNone}, {ints(), api.ErrNone}, {ints(white), api.ErrNone}, {ints(white, amber), api.ErrNone}, {ints(red, green, yellow), api.ErrNone}, {ints(cyan, magenta, blue), api.ErrNone},
		{ints(red, green, cyan, magenta, white, amber), api.ErrNone},
	}
	for i := range 3 {
		l = append(l, wrong{slices.Delete(lamps(), i, i+1), api.ErrNone}, wrong{slices.Delete(dyes(), i, i+1), api.ErrNone})
		l = append(l, wrong{slices.DeleteFunc(every(), func(attr int) bool { return attr == lamps()[i] || attr == dyes()[2-i] }), api.ErrNone})
	}
	for _, attr := range noPrimaries() {
		l = append(l, wrong{ints(attr), api.ErrArg}, wrong{append(lamps(), attr), api.ErrArg}, wrong{append(ints(attr), dyes()...), api.ErrArg})
	}
	return l
}

// TestWrongPalettes checks that all functions with a palette return its error first, and nothing beside it.
func TestWrongPalettes(t *testing.T) {
	for _, test := range wrongPalettes() {
		if e := colour.Check(test.attrs); e != test.want {
			t.Errorf("Check(%v): got %d, want %d", test.attrs, e, test.want)
		}
		for _, rgb := range [][3]int{{1, 2, 3}, {-1, 0, 0}} {
			if l, e := colour.Mix(test.attrs, rgb); len(l) != 0 || e != test.want {
				t.Errorf("Mix(%v, %v): got %v, %d, want %d", test.attrs, rgb, l, e, test.want)
			}
		}
		for _, levels := range [][]int{make([]int, len(test.attrs)), make([]int, len(test.attrs)+1), slices.Repeat(ints(-1), len(test.attrs)), {-1}} {
			if rgb, e := colour.Light(test.attrs, levels); rgb != [3]int{} || e != test.want {
				t.Errorf("Light(%v, %v): got %v, %d, want %d", test.attrs, levels, rgb, e, test.want)
			}
		}
	}
}

func TestMix(t *testing.T) {
	for _, test := range []struct {
		attrs []int
		rgb   [3]int
		want  []int
	}{
		{ints(red, green, blue, white), [3]int{60000, 50000, 10000}, ints(50000, 40000, 0, 10000)},
		{dyes(), [3]int{60000, 50000, 10000}, ints(5535, 15535, 55535)},
		{lamps(), [3]int{60000, 50000, 10000}, ints(60000, 50000, 10000)},
		{lamps(), [3]int{0, 0, 0}, ints(0, 0, 0)},
		{lamps(), [3]int{full, full, full}, ints(full, full, full)},
		{ints(white, blue, green, red), [3]int{full, full, full}, ints(full, 0, 0, 0)},
		{ints(white, blue, green, red), [3]int{7, 7, 8}, ints(7, 1, 0, 0)},
		{ints(white, blue, green, red), [3]int{9, 8, 7}, ints(7, 0, 1, 2)},
		{ints(white, blue, green, red), [3]int{9, 7, 8}, ints(7, 1, 0, 2)},
		{ints(white, blue, green, red), [3]int{0, 65535, 1}, ints(0, 1, full, 0)},
		{ints(red, green, blue, amber), [3]int{5, 6, 7}, ints(5, 6, 7, 0)},
		{every(), [3]int{30, 20, 10}, ints(20, 10, 0, 10, 0, 0, 0, 0)},
		{ints(cyan, magenta, yellow, red, green, blue), [3]int{30, 20, 10}, ints(0, 0, 0, 30, 20, 10)},
		{dyes(), [3]int{0, 0, 0}, ints(full, full, full)},
		{dyes(), [3]int{full, full, full}, ints(0, 0, 0)},
		{ints(yellow, cyan, magenta), [3]int{1, 2, 3}, ints(full-3, full-1, full-2)},
		{ints(white, cyan, amber, magenta, red, yellow, green), [3]int{30, 20, 10}, ints(0, full-30, 0, full-20, 0, full-10, 0)},
	} {
		if got, e := colour.Mix(test.attrs, test.rgb); !slices.Equal(got, test.want) || e != api.OK {
			t.Errorf("Mix(%v, %v): got %v, %d, want %v", test.attrs, test.rgb, got, e, test.want)
		}
	}
	for _, rgb := range wrongColours() {
		for _, attrs := range [][]int{lamps(), dyes(), every()} {
			if got, e := colour.Mix(attrs, rgb); len(got) != 0 || e != api.ErrRange {
				t.Errorf("Mix(%v, %v): got %v, %d", attrs, rgb, got, e)
			}
		}
	}
}

// wrongColours returns colours with one int that is no level.
func wrongColours() [][3]int {
	var l [][3]int
	for _, v := range noLevels() {
		l = append(l, [3]int{v, 0, 1}, [3]int{full, v, 5}, [3]int{1, 2, v})
	}
	return l
}

func TestLight(t *testing.T) {
	for _, test := range []struct {
		attrs, levels []int
		want          [3]int
	}{
		{lamps(), ints(1, 2, 3), [3]int{1, 2, 3}},
		{lamps(), ints(full, 0, full), [3]int{full, 0, full}},
		{ints(blue, white, green, red), ints(1, 10, 2, 3), [3]int{13, 12, 11}},
		{ints(red, green, blue, white), ints(0, 0, 0, full), [3]int{full, full, full}},
		{ints(red, green, blue, white), ints(5535, 5536, 5534, 60000), [3]int{full, full, full - 1}},
		{ints(red, green, blue, white), ints(full, full, full, full), [3]int{full, full, full}},
		{ints(amber, red, green, blue), ints(full, 1, 2, 3), [3]int{1, 2, 3}},
		{every(), ints(1, 2, 3, 4, full, full, full, full), [3]int{5, 6, 7}},
		{ints(cyan, red, magenta, green, yellow, blue), ints(9, 1, 9, 2, 9, 3), [3]int{1, 2, 3}},
		{dyes(), ints(0, 0, 0), [3]int{full, full, full}},
		{dyes(), ints(full, full, full), [3]int{0, 0, 0}},
		{dyes(), ints(5535, 15535, 55535), [3]int{60000, 50000, 10000}},
		{ints(yellow, white, cyan, amber, magenta, red, blue), ints(1, full, 2, full, 3, full, full), [3]int{full - 2, full - 3, full - 1}},
	} {
		if got, e := colour.Light(test.attrs, test.levels); got != test.want || e != api.OK {
			t.Errorf("Light(%v, %v): got %v, %d, want %v", test.attrs, test.levels, got, e, test.want)
		}
	}
	for _, test := range []struct {
		attrs, levels []int
		want          api.Errno
	}{
		{lamps(), nil, api.ErrShape}, {lamps(), ints(1, 2), api.ErrShape}, {lamps(), ints(1, 2, 3, 4), api.ErrShape}, {dyes(), ints(), api.ErrShape}, {every(), make([]int, 1<<16), api.ErrShape},
		{lamps(), ints(-1, 2), api.ErrShape}, {dyes(), ints(1, 2, full+1, 4), api.ErrShape},
	} {
		if got, e := colour.Light(test.attrs, test.levels); got != [3]int{} || e != test.want {
			t.Errorf("Light(%v, %v): got %v, %d, want %d", test.attrs, test.levels, got, e, test.want)
		}
	}
	for i := range every() {
		for _, v := range noLevels() {
			levels := make([]int, len(every()))
			levels[i] = v
			if got, e := colour.Light(every(), levels); got != [3]int{} || e != api.ErrRange {
				t.Errorf("Light(%v, %v): got %v, %d", every(), levels, got, e)
			}
		}
	}
}

func TestWheel(t *testing.T) {
	for _, test := range []struct{ rgb, want [3]int }{
		{[3]int{60000, 50000, 10000}, [3]int{800, 54613, 60000}},
		{[3]int{0, 0, full}, [3]int{4000, full, full}},
		{[3]int{full, 0, 1}, [3]int{5999, full, full}},
		{[3]int{0, 0, 0}, [3]int{0, 0, 0}},
		{[3]int{1, 1, 1}, [3]int{0, 0, 1}},
		{[3]int{full, full, full}, [3]int{0, 0, full}},
		// The six corners, of which three have two greatest levels.
		{[3]int{7, 0, 0}, [3]int{0, full, 7}},
		{[3]int{7, 7, 0}, [3]int{1000, full, 7}},
		{[3]int{0, 7, 0}, [3]int{2000, full, 7}},
		{[3]int{0, 7, 7}, [3]int{3000, full, 7}},
		{[3]int{0, 0, 7}, [3]int{4000, full, 7}},
		{[3]int{7, 0, 7}, [3]int{5000, full, 7}},
		// Within the six parts: thirds, which are rounded down on both sides.
		{[3]int{3, 1, 0}, [3]int{333, full, 3}},
		{[3]int{1, 3, 0}, [3]int{1666, full, 3}},
		{[3]int{0, 3, 1}, [3]int{2333, full, 3}},
		{[3]int{0, 1, 3}, [3]int{3666, full, 3}},
		{[3]int{1, 0, 3}, [3]int{4333, full, 3}},
		{[3]int{3, 0, 1}, [3]int{5666, full, 3}},
		// Next to the middle of a part that is counted from a primary.
		{[3]int{full, 1, 0}, [3]int{0, full, full}},
		{[3]int{1, full, 0}, [3]int{1999, full, full}},
		{[3]int{0, full, 1}, [3]int{2000, full, full}},
		{[3]int{0, 1, full}, [3]int{3999, full, full}},
		{[3]int{1, 0, full}, [3]int{4000, full, full}},
		// Saturations: 65535 / 2, 65535 / 6 and 65535 (1 - 65533 / 65535) and others.
		{[3]int{2, 1, 1}, [3]int{0, 32768, 2}},
		{[3]int{6, 5, 5}, [3]int{0, 10923, 6}},
		{[3]int{full, full, full - 2}, [3]int{1000, 2, full}},
		{[3]int{60000, 60000, 59999}, [3]int{1000, 1, 60000}},
		{[3]int{4, 4, 3}, [3]int{1000, 16384, 4}},
		{[3]int{7, 7, 6}, [3]int{1000, 9362, 7}},
		{[3]int{full, full, 1}, [3]int{1000, full - 1, full}},
	} {
		if got, e := colour.Wheel(test.rgb); got != test.want || e != api.OK {
			t.Errorf("Wheel(%v): got %v, %d, want %v", test.rgb, got, e, test.want)
		}
	}
	for _, rgb := range wrongColours() {
		if got, e := colour.Wheel(rgb); got != [3]int{} || e != api.ErrRange {
			t.Errorf("Wheel(%v): got %v, %d", rgb, got, e)
		}
	}
}

func TestNearest(t *testing.T) {
	for _, test := range []struct {
		rgb  [3]int
		l    [][3]int
		want int
	}{
		{[3]int{30000, 30000, 30000}, [][3]int{{0, 0, 0}, {full, full, full}}, 0},
		{[3]int{32768, 32768, 32767}, [][3]int{{0, 0, 0}, {full, full, full}}, 1},
		{[3]int{0, 0, 0}, [][3]int{{full, full, full}}, 0},
		{[3]int{5, 5, 5}, [][3]int{{6, 5, 5}, {5, 4, 5}, {5, 5, 6}}, 0},
		{[3]int{5, 5, 5}, [][3]int{{7, 5, 5}, {5, 4, 5}, {5, 5, 6}}, 1},
		{[3]int{5, 5, 5}, [][3]int{{6, 6, 5}, {5, 4, 4}, {5, 6, 5}}, 2},
		{[3]int{5, 5, 5}, [][3]int{{9, 9, 9}, {5, 5, 5}, {5, 5, 5}}, 1},
		// Squares, not differences: 25 is less than 27, and 15 more than 9.
		{[3]int{0, 0, 0}, [][3]int{{3, 3, 3}, {5, 0, 0}}, 1},
		{[3]int{10, 10, 10}, [][3]int{{7, 7, 7}, {10, 16, 10}}, 0},
		{[3]int{0, 0, 0}, [][3]int{{full, full, full}, {full, full, full - 1}, {full, full - 1, full}}, 1},
		{[3]int{full, 0, full}, [][3]int{{0, full, 0}, {0, full, 1}, {1, full, 0}}, 1},
		{[3]int{1, 2, 3}, append(make([][3]int, api.MaxList-1), [3]int{3, 2, 1}), 255},
	} {
		if got, e := colour.Nearest(test.rgb, test.l); got != test.want || e != api.OK {
			t.Errorf("Nearest(%v, %v): got %d, %d, want %d", test.rgb, test.l[:min(len(test.l), 5)], got, e, test.want)
		}
	}
}

func TestWrongNearest(t *testing.T) {
	one, many := [][3]int{{1, 2, 3}}, make([][3]int, api.MaxList+1)
	noColours := slices.Repeat([][3]int{{-1, 0, 0}}, api.MaxList+1)
	for _, test := range []struct {
		rgb  [3]int
		l    [][3]int
		want api.Errno
	}{
		{[3]int{}, nil, api.ErrEmpty}, {[3]int{}, [][3]int{}, api.ErrEmpty}, {[3]int{full, full, full}, nil, api.ErrEmpty},
		{[3]int{}, many, api.ErrMany}, {[3]int{}, noColours, api.ErrMany}, {[3]int{}, noColours[1:], api.ErrRange}, {[3]int{}, make([][3]int, 1<<12), api.ErrMany},
	} {
		if got, e := colour.Nearest(test.rgb, test.l); got != 0 || e != test.want {
			t.Errorf("Nearest(%v, %d colours): got %d, %d, want %d", test.rgb, len(test.l), got, e, test.want)
		}
	}
	for _, rgb := range wrongColours() {
		for _, l := range [][][3]int{nil, one, many, noColours} {
			if got, e := colour.Nearest(rgb, l); got != 0 || e != api.ErrRange {
				t.Errorf("Nearest(%v, %d colours): got %d, %d", rgb, len(l), got, e)
			}
		}
		for _, l := range [][][3]int{{rgb}, {{1, 2, 3}, rgb}, {{9, 9, 9}, {1, 2, 3}, rgb, {1, 1, 1}}} {
			if got, e := colour.Nearest([3]int{1, 2, 3}, l); got != 0 || e != api.ErrRange {
				t.Errorf("Nearest of %v: got %d, %d", l, got, e)
			}
		}
	}
}
