package parameter_test

import (
	"math"
	"testing"

	"luminaire/api"
	"luminaire/parameter"
)

// outside returns ints that are not from one to another.
func outside(least, most int) []int {
	return []int{least - 1, least - 2, most + 1, most + 1<<32, least - 1<<32, math.MinInt, math.MaxInt}
}

func TestCheck(t *testing.T) {
	for _, p := range []api.Param{{Channel: 1}, {Channel: api.MaxChannel}, {Channel: 1, Attr: api.Attrs - 1}, {Channel: api.MaxChannel, Attr: api.Attrs - 1}, {Channel: 500, Attr: api.AttrRed}} {
		if e := parameter.Check(p); e != api.OK {
			t.Errorf("Check(%v): got %d", p, e)
		}
	}
	for _, n := range outside(1, api.MaxChannel) {
		if e := parameter.Check(api.Param{Channel: n}); e != api.ErrRange {
			t.Errorf("Check of the channel %d: got %d", n, e)
		}
	}
	for _, n := range outside(0, api.Attrs-1) {
		if e := parameter.Check(api.Param{Channel: 1, Attr: n}); e != api.ErrRange {
			t.Errorf("Check of the attribute %d: got %d", n, e)
		}
	}
}

func TestCompare(t *testing.T) {
	ascending := [][2]int{{math.MinInt, math.MinInt}, {math.MinInt, math.MaxInt}, {-1, 5}, {0, 3}, {1, 0}, {1, 1}, {1, 14}, {2, 0}, {2, math.MaxInt}, {999, -7}, {math.MaxInt, math.MinInt}, {math.MaxInt, math.MaxInt}}
	for i, x := range ascending {
		for j, y := range ascending {
			a, b := api.Param{Channel: x[0], Attr: x[1]}, api.Param{Channel: y[0], Attr: y[1]}
			want := 0
			switch {
			case i < j:
				want = -1
			case i > j:
				want = 1
			}
			if got := parameter.Compare(a, b); got != want {
				t.Errorf("Compare(%v, %v): got %d, want %d", a, b, got, want)
			}
		}
	}
}
