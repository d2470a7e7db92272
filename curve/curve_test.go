package curve_test

import (
	"math"
	"slices"
	"strings"
	"testing"

	"luminaire/api"
	"luminaire/curve"
)

const full = api.MaxLevel

// points returns the points with these X and Y in turn.
func points(l ...int) []api.Point {
	var c []api.Point
	for i := 0; i+1 < len(l); i += 2 {
		c = append(c, api.Point{X: l[i], Y: l[i+1]})
	}
	return c
}

// list returns the curves that it is given.
func list(l ...[]api.Point) [][]api.Point { return l }

// example is the curve of the document's first example.
func example() []api.Point { return points(0, 0, 20000, 60000, full, full) }

// stairs returns a curve with a number of points.
func stairs(n int) []api.Point {
	var c []api.Point
	for i := range n - 1 {
		c = append(c, api.Point{X: 10 * i, Y: i * i})
	}
	return append(c, api.Point{X: full, Y: 7})
}

// wrong is a list of points that is no curve, with the error of Check.
type wrong struct {
	name string
	c    []api.Point
	want api.Errno
}

func wrongCurves() []wrong {
	tests := []wrong{
		{"nothing", nil, api.ErrShape},
		{"nothing", points(), api.ErrShape},
		{"one point", points(0, 0), api.ErrShape},
		{"one point at the end", points(full, 0), api.ErrShape},
		{"one point out of the range", points(-1, -1), api.ErrShape},
		{"too many", stairs(api.MaxPoints + 1), api.ErrMany},
		{"too many that are wrong", make([]api.Point, api.MaxPoints+1), api.ErrMany},
		{"as many as possible that are wrong", make([]api.Point, api.MaxPoints), api.ErrOrder},
		{"the same X", points(0, 0, 0, 5, full, full), api.ErrOrder},
		{"the same point", points(0, 0, 5, 5, 5, 5, full, full), api.ErrOrder},
		{"descending", points(0, 0, 9, 9, 5, 7, full, full), api.ErrOrder},
		{"the last two", points(0, 0, full, 9, full, 10), api.ErrOrder},
		{"backwards", points(full, 0, 0, 0), api.ErrOrder},
		{"a late first X", points(1, 0, full, full), api.ErrShape},
		{"an early last X", points(0, 0, full-1, full), api.ErrShape},
		{"both", points(1, 0, full-1, full), api.ErrShape},
		{"the range before the order", points(0, 0, 9, 9, 5, full+1), api.ErrRange},
		{"the order before a later range", points(0, 0, 0, 5, -1, 0), api.ErrOrder},
		{"the range before a later order", points(0, 0, 9, -1, 9, 0), api.ErrRange},
		{"the range before the ends", points(1, 0, full-1, full+1), api.ErrRange},
		{"the order before the ends", points(1, 0, 1, 0), api.ErrOrder},
	}
	for _, n := range []int{-1, full + 1, 1 << 32, math.MinInt, math.MaxInt} {
		tests = append(tests,
			wrong{"the first X", points(n, 0, full, full), api.ErrRange}, wrong{"the first Y", points(0, n, full, full), api.ErrRange},
			wrong{"an X", points(0, 0, n, 5, full, full), api.ErrRange}, wrong{"a Y", points(0, 0, 5, n, full, full), api.ErrRange},
			wrong{"the last X", points(0, 0, n, full), api.ErrRange}, wrong{"the last Y", points(0, 0, full, n), api.ErrRange})
	}
	return tests
}

func TestCheck(t *testing.T) {
	for _, c := range [][]api.Point{
		curve.Straight(), example(), points(0, 0, full, 0), points(0, full, full, full), points(0, full, full, 0), points(0, 5, full, 5),
		points(0, 9, 1, full, 2, 0, full-1, 3, full, 3), stairs(2), stairs(3), stairs(api.MaxPoints),
	} {
		if e := curve.Check(c); e != api.OK {
			t.Errorf("Check(%v): got %d", c, e)
		}
	}
	for _, test := range wrongCurves() {
		if e := curve.Check(test.c); e != test.want {
			t.Errorf("Check of %v (%s): got %d, want %d", test.c, test.name, e, test.want)
		}
	}
}

// TestWrongCurves checks that functions return the error of a wrong curve before all others, and nothing beside it.
func TestWrongCurves(t *testing.T) {
	for _, test := range wrongCurves() {
		for _, v := range []api.Rat{"0", "1/2", "65535", "-1", "65536", "x", ""} {
			if got, e := curve.At(test.c, v); got != "" || e != test.want {
				t.Errorf("At(%v, %q): got %q, %d, want %d", test.c, v, got, e, test.want)
			}
			for _, l := range [][][]api.Point{list(test.c), list(example(), test.c), list(test.c, nil), list(example(), test.c, nil)} {
				if got, e := curve.Through(l, v); got != "" || e != test.want {
					t.Errorf("Through(%v, %q): got %q, %d, want %d", l, v, got, e, test.want)
				}
			}
		}
		if got, e := curve.Slope(test.c); got != 0 || e != test.want {
			t.Errorf("Slope(%v): got %d, %d, want %d", test.c, got, e, test.want)
		}
		for name, change := range changes() {
			if got, e := change(test.c); len(got) != 0 || e != test.want {
				t.Errorf("%s(%v): got %v, %d, want %d", name, test.c, got, e, test.want)
			}
		}
	}
}

// changes returns the functions that make a curve of another one.
func changes() map[string]func(c []api.Point) ([]api.Point, api.Errno) {
	return map[string]func(c []api.Point) ([]api.Point, api.Errno){"Inverse": curve.Inverse, "Flip": curve.Flip, "Tidy": curve.Tidy}
}

func TestStraight(t *testing.T) {
	if got := curve.Straight(); !slices.Equal(got, points(0, 0, full, full)) {
		t.Errorf("Straight: got %v", got)
	}
}

func TestAt(t *testing.T) {
	bent := points(0, 100, 30, 40, full, 40)
	steep := points(0, 0, 1, full, 2, 1, full, 2)
	down := points(0, full, full, 0)
	for _, test := range []struct {
		c       []api.Point
		v, want api.Rat
	}{
		{example(), "10000", "30000"}, {example(), "20000", "60000"}, {example(), "1/3", "1"}, {example(), "0", "0"}, {example(), "65535", "65535"},
		{example(), "1/2", "3/2"}, {example(), "59999/3", "59999"}, {example(), "60001/3", "546420369/9107"}, {example(), "20001", "546421107/9107"},
		{example(), "131069/2", "1193653383/18214"},
		{bent, "0", "100"}, {bent, "15", "70"}, {bent, "1/4", "199/2"}, {bent, "29", "42"}, {bent, "30", "40"}, {bent, "61/2", "40"}, {bent, "65535", "40"},
		{steep, "0", "0"}, {steep, "1/65535", "1"}, {steep, "1/131070", "1/2"}, {steep, "65534/65535", "65534"}, {steep, "1", "65535"},
		{steep, "3/2", "32768"}, {steep, "2", "1"}, {steep, "65535", "2"}, {steep, "3", "65534/65533"}, {steep, "65534", "131065/65533"},
		{down, "0", "65535"}, {down, "1", "65534"}, {down, "1/2", "131069/2"}, {down, "65535", "0"}, {down, "131069/2", "1/2"}, {down, "196604/3", "1/3"},
		{points(0, 0, full, 1), "1", "1/65535"}, {points(0, 1, full, 0), "1", "65534/65535"}, {points(0, 1, full, 0), "3", "21844/21845"},
		{points(0, 5, full, 5), "0", "5"}, {points(0, 5, full, 5), "1/7", "5"}, {points(0, 5, full, 5), "65535", "5"}, {points(0, 0, full, 0), "7/2", "0"},
		{stairs(api.MaxPoints), "0", "0"}, {stairs(api.MaxPoints), "5", "1/2"}, {stairs(api.MaxPoints), "135", "365/2"}, {stairs(api.MaxPoints), "140", "196"},
	} {
		if got, e := curve.At(test.c, test.v); got != test.want || e != api.OK {
			t.Errorf("At(%v, %q): got %q, %d, want %q", test.c, test.v, got, e, test.want)
		}
	}
}

// badNumbers returns numbers at which curves have no values, with the error of each.
func badNumbers() map[api.Rat]api.Errno {
	large := api.Rat(strings.Repeat("9", api.MaxLong+1))
	return map[api.Rat]api.Errno{
		"": api.ErrForm, "x": api.ErrForm, "-0": api.ErrForm, "01": api.ErrForm, "1.5": api.ErrForm, "2/4": api.ErrForm, "131070/2": api.ErrForm,
		"3/1": api.ErrForm, "1/-2": api.ErrForm, "1/0": api.ErrForm, "01/" + large: api.ErrForm,
		large: api.ErrLarge, "-" + large: api.ErrLarge, large + "/2": api.ErrLarge, "1/" + large: api.ErrLarge,
		"-1": api.ErrRange, "-1/3": api.ErrRange, "65536": api.ErrRange, "131071/2": api.ErrRange, "-1/1000000000000": api.ErrRange,
		"65535000000000001/1000000000000": api.ErrRange, "18446744073709551616": api.ErrRange, large[1:]: api.ErrRange, "-" + large[1:]: api.ErrRange,
		"-1/" + large[1:]: api.ErrRange,
	}
}

func TestBadNumbers(t *testing.T) {
	for v, want := range badNumbers() {
		for _, l := range [][][]api.Point{nil, list(example()), list(example(), points(0, full, full, 0))} {
			if got, e := curve.Through(l, v); got != "" || e != want {
				t.Errorf("Through(%v, %.40q): got %q, %d, want %d", l, v, got, e, want)
			}
		}
		if got, e := curve.At(example(), v); got != "" || e != want {
			t.Errorf("At(%.40q): got %q, %d, want %d", v, got, e, want)
		}
	}
}

func TestThrough(t *testing.T) {
	bent, tent := points(0, 100, 30, 40, full, 40), points(0, 0, 50, 200, full, 0)
	down := points(0, full, full, 0)
	many := slices.Repeat(list(curve.Straight()), api.MaxCurves)
	for _, test := range []struct {
		l       [][]api.Point
		v, want api.Rat
		e       api.Errno
	}{
		{nil, "7/2", "7/2", api.OK}, {nil, "0", "0", api.OK}, {nil, "65535", "65535", api.OK}, {list(), "1/3", "1/3", api.OK},
		{list(bent), "15", "70", api.OK}, {list(bent, tent), "30", "160", api.OK}, {list(tent, bent), "30", "40", api.OK},
		{list(tent, bent), "5", "60", api.OK}, {list(bent, tent), "1/4", "2617420/13097", api.OK}, {list(bent, tent), "0", "2617400/13097", api.OK},
		{list(example(), example()), "1/9", "1", api.OK}, {list(example(), example(), down), "1/9", "65534", api.OK},
		{list(down, example()), "65534", "3", api.OK}, {list(example(), down), "1", "65532", api.OK},
		{many, "22/7", "22/7", api.OK}, {slices.Concat(many[1:], list(bent)), "15", "70", api.OK}, {slices.Concat(list(bent), many[1:]), "15", "70", api.OK},
		{slices.Concat(many, list(bent)), "1", "", api.ErrMany}, {make([][]api.Point, api.MaxCurves+1), "x", "", api.ErrMany},
		{make([][]api.Point, api.MaxCurves), "x", "", api.ErrShape}, {slices.Concat(many[1:], list(nil)), "1", "", api.ErrShape},
		{list(bent, points(0, 0)), "70000", "", api.ErrShape},
		{list(points(0, -1, full, 0), nil), "1", "", api.ErrRange}, {list(nil, points(0, -1, full, 0)), "1", "", api.ErrShape},
	} {
		if got, e := curve.Through(test.l, test.v); got != test.want || e != test.e {
			t.Errorf("Through(%v, %q): got %q, %d, want %q, %d", test.l, test.v, got, e, test.want, test.e)
		}
	}
}

func TestSlope(t *testing.T) {
	for _, test := range []struct {
		c    []api.Point
		want int
	}{
		{curve.Straight(), 1}, {example(), 1}, {points(0, 3, 5, 4, full, 9), 1}, {points(0, 0, full, 1), 1},
		{points(0, full, full, 0), -1}, {points(0, 9, 5, 4, full, 3), -1}, {points(0, 1, full, 0), -1}, {points(0, full, 1, 8, 2, 7, full, 6), -1},
		{points(0, 5, full, 5), 0}, {points(0, 100, 30, 40, full, 40), 0}, {points(0, 40, 30, 40, full, 100), 0}, {points(0, 0, 30, 0, full, 9), 0},
		{points(0, 0, 9, 5, full, 4), 0}, {points(0, 9, 9, 5, full, 6), 0}, {points(0, 0, 9, 7, 12, 6, full, 8), 0}, {points(0, 9, 9, 7, 12, 8, full, 2), 0},
		{points(0, 0, 9, 7, 12, 7, full, 8), 0}, {points(0, 9, 9, 7, 12, 7, full, 2), 0}, {stairs(api.MaxPoints), 0}, {stairs(2), 1},
	} {
		if got, e := curve.Slope(test.c); got != test.want || e != api.OK {
			t.Errorf("Slope(%v): got %d, %d, want %d", test.c, got, e, test.want)
		}
	}
}

func TestInverse(t *testing.T) {
	for _, test := range []struct{ c, want []api.Point }{
		{curve.Straight(), curve.Straight()}, {example(), points(0, 0, 60000, 20000, full, full)}, {points(0, full, full, 0), points(0, full, full, 0)},
		{points(0, full, 100, 7, full, 0), points(0, full, 7, 100, full, 0)}, {points(0, 0, 1, 2, 2, 3, full, full), points(0, 0, 2, 1, 3, 2, full, full)},
		{points(0, full, 1, 8, 2, 7, full, 0), points(0, full, 7, 2, 8, 1, full, 0)},
	} {
		if got, e := curve.Inverse(test.c); !slices.Equal(got, test.want) || e != api.OK {
			t.Errorf("Inverse(%v): got %v, %d, want %v", test.c, got, e, test.want)
		}
	}
	for _, c := range [][]api.Point{
		points(0, 0, 100, 0, full, full), points(0, full, 100, 0, full, 0), points(0, 0, 9, full, full, full), points(0, 5, full, 5),
		points(0, 0, 9, 7, 12, 6, full, full), points(0, full, 9, 7, 12, 8, full, 0), points(0, 0, 9, 9, full, 0), points(0, full, 9, 9, full, full),
		points(0, 1, full, full), points(0, 0, full, full-1), points(0, full-1, full, 0), points(0, full, full, 1), points(0, 1, full, full-1), points(0, 7, full, 3),
	} {
		if got, e := curve.Inverse(c); len(got) != 0 || e != api.ErrState {
			t.Errorf("Inverse(%v): got %v, %d, want ErrState", c, got, e)
		}
	}
}

func TestFlip(t *testing.T) {
	for _, test := range []struct{ c, want []api.Point }{
		{curve.Straight(), points(0, full, full, 0)}, {points(0, full, full, 0), curve.Straight()}, {example(), points(0, full, 20000, 5535, full, 0)},
		{points(0, 100, 30, 40, full, 40), points(0, 65435, 30, 65495, full, 65495)}, {points(0, 0, full, 0), points(0, full, full, full)},
	} {
		if got, e := curve.Flip(test.c); !slices.Equal(got, test.want) || e != api.OK {
			t.Errorf("Flip(%v): got %v, %d, want %v", test.c, got, e, test.want)
		}
	}
}

func TestTidy(t *testing.T) {
	for _, test := range []struct{ c, want []api.Point }{
		{points(0, 0, 10, 20, 20, 40, full, 40), points(0, 0, 20, 40, full, 40)}, {curve.Straight(), curve.Straight()}, {example(), example()},
		{points(0, 40, 10, 40, 20, 40, 30, 50, 40, 60, full, 0), points(0, 40, 20, 40, 40, 60, full, 0)},
		{points(0, 0, 1, 1, 5, 5, 700, 700, full-1, full-1, full, full), curve.Straight()}, {points(0, 5, 3, 5, full, 5), points(0, 5, full, 5)},
		{points(0, full, 1, full-1, 9, full-9, full, 0), points(0, full, full, 0)},
		{points(0, 0, 21845, 1, 43690, 2, full, 3), points(0, 0, full, 3)}, {points(0, 0, 21845, 1, 43691, 2, full, 3), points(0, 0, 21845, 1, 43691, 2, full, 3)},
		{points(0, 0, 1, full, full-1, full, full, 0), points(0, 0, 1, full, full-1, full, full, 0)}, {points(0, 9, 5, 4, 10, 9, full, 9), points(0, 9, 5, 4, 10, 9, full, 9)},
		{points(0, 0, 32767, 32766, full, full), points(0, 0, 32767, 32766, full, full)}, {points(0, 0, full-1, full, full, full), points(0, 0, full-1, full, full, full)},
		{stairs(api.MaxPoints), stairs(api.MaxPoints)},
	} {
		if got, e := curve.Tidy(test.c); !slices.Equal(got, test.want) || e != api.OK {
			t.Errorf("Tidy(%v): got %v, %d, want %v", test.c, got, e, test.want)
		}
	}
}

// TestListsAreNotShared checks that arguments stay as they are, beyond their length too, and that results are new.
func TestListsAreNotShared(t *testing.T) {
	room := points(0, full, 10, full-10, 20, full-20, full, 0, 1, 1, 1, 1)
	c, before := room[:4], slices.Clone(room)
	results := changes()
	results["Straight"] = func([]api.Point) ([]api.Point, api.Errno) { return curve.Straight(), api.OK }
	for name, result := range results {
		first, e := result(c)
		kept := slices.Clone(first)
		clear(first[:cap(first)])
		if second, f := result(c); len(kept) == 0 || !slices.Equal(second, kept) || e != api.OK || f != api.OK {
			t.Errorf("%s: got %v, %d, then %v, %d", name, kept, e, second, f)
		}
	}
	if _, e := curve.At(c, "1/2"); e != api.OK {
		t.Errorf("At: got %d", e)
	}
	if _, e := curve.Through(list(c, c), "1/2"); e != api.OK {
		t.Errorf("Through: got %d", e)
	}
	if slope, e := curve.Slope(c); slope != -1 || e != api.OK {
		t.Errorf("Slope: got %d, %d", slope, e)
	}
	if !slices.Equal(room, before) {
		t.Errorf("the points have become %v", room)
	}
}
