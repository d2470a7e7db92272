package profile_test

import (
	"math"
	"math/big"
	"slices"
	"strings"
	"testing"

	"luminaire/api"
	"luminaire/profile"
)

// eight and sixteen return features with the straight curve and some raw values.
func eight(low, high int) api.Feature   { return api.Feature{Bits: 8, Low: low, High: high} }
func sixteen(low, high int) api.Feature { return api.Feature{Bits: 16, Low: low, High: high} }

// through returns a feature with a curve.
func through(f api.Feature, curve int) api.Feature {
	f.Curve = curve
	return f
}

func TestRaw(t *testing.T) {
	small := eight(10, 20)
	for _, test := range []struct {
		f    api.Feature
		v    api.Rat
		want int
	}{
		{small, "0", 10}, {small, "32768", 15}, {small, "65535", 20}, {small, "70000", 20}, {small, "65536", 20}, {small, "-1", 10}, {small, "-1/3", 10},
		{small, "131071/2", 20}, {small, "-99999999999999999999", 10}, {small, "99999999999999999999/7", 20}, {small, "6553", 11}, {small, "13107/4", 11},
		{small, "3276", 10}, {small, "3277", 11}, {small, "6553499/2000", 10}, {small, "249033/4", 20}, {small, "62258", 19}, {small, "1/2", 10},
		{eight(0, 255), "32768", 128}, {eight(0, 255), "128", 0}, {eight(0, 255), "257/2", 1}, {eight(0, 255), "65406", 254}, {eight(0, 255), "130813/2", 255},
		{eight(7, 7), "0", 7}, {eight(7, 7), "65535", 7}, {eight(7, 7), "1/3", 7}, {eight(255, 255), "1", 255}, {eight(0, 1), "65535/2", 1}, {eight(0, 1), "32767", 0},
		{eight(0, 0), "70000", 0}, {eight(254, 255), "-70000", 254}, {eight(254, 255), "70000", 255},
		{sixteen(0, full), "32768", 32768}, {sixteen(0, full), "1/2", 1}, {sixteen(0, full), "499999/1000000", 0}, {sixteen(0, full), "131069/2", full},
		{sixteen(0, full), "-5", 0}, {sixteen(0, full), "65536", full}, {sixteen(1000, 2000), "32768", 1500}, {sixteen(full, full), "0", full}, {sixteen(0, 513), "65535", 513},
		{through(eight(0, 255), 1), "32768", 128}, {through(eight(0, 255), 2), "16384", 191}, {through(eight(0, 255), 2), "0", 255}, {through(eight(0, 255), 2), "-3", 255},
		{through(eight(0, 255), 2), "65535", 0}, {through(eight(0, 255), 2), "99999", 0}, {through(sixteen(0, full), 2), "1/2", full}, {through(sixteen(0, full), 2), "3/4", full - 1},
		{through(sixteen(0, full), 3), "0", 100}, {through(sixteen(0, full), 3), "-7", 100}, {through(sixteen(0, full), 3), "1", 160}, {through(sixteen(0, full), 3), "1000", 60000},
		{through(sixteen(0, full), 3), "1/3", 120}, {through(sixteen(0, full), 3), "65535", 0}, {through(sixteen(0, full), 3), "65536", 0}, {through(eight(100, 200), 3), "1000", 192},
	} {
		if got, e := profile.Raw(test.f, curves(), test.v); got != test.want || e != api.OK {
			t.Errorf("Raw of %d to %d through %d at %q: got %d, %d, want %d", test.f.Low, test.f.High, test.f.Curve, test.v, got, e, test.want)
		}
	}
}

func TestRawOfWrongNumbers(t *testing.T) {
	large := api.Rat(strings.Repeat("7", api.MaxLong+1))
	for v, want := range map[api.Rat]api.Errno{
		"": api.ErrForm, "x": api.ErrForm, "-0": api.ErrForm, "01": api.ErrForm, "1.5": api.ErrForm, "2/4": api.ErrForm, "140000/2": api.ErrForm, "3/1": api.ErrForm,
		"1/-2": api.ErrForm, "1/0": api.ErrForm, "-": api.ErrForm, "-2/4": api.ErrForm, "01/" + large: api.ErrForm,
		large: api.ErrLarge, "-" + large: api.ErrLarge, "1/" + large: api.ErrLarge, large + "/2": api.ErrLarge,
	} {
		for curve := range 4 {
			if got, e := profile.Raw(through(eight(10, 20), curve), curves(), v); got != 0 || e != want {
				t.Errorf("Raw at %.40q: got %d, %d, want %d", v, got, e, want)
			}
		}
	}
}

// beside returns a fraction and a tiny bit more (1), or less (-1), which has almost as many digits as there may be.
func beside(num, den, direction int) api.Rat {
	tiny := new(big.Rat).SetFrac(big.NewInt(int64(direction)), new(big.Int).Exp(big.NewInt(10), big.NewInt(api.MaxLong-16), nil))
	return api.Rat(tiny.Add(tiny, big.NewRat(int64(num), int64(den))).RatString())
}

func TestRawOfLongNumbers(t *testing.T) {
	zeros := api.Rat(strings.Repeat("0", api.MaxLong-1))
	nines := api.Rat(strings.Repeat("9", api.MaxLong))
	steep := list([]api.Point{{X: 0, Y: 0}, {X: 1, Y: full}, {X: 2, Y: 0}, {X: 12, Y: 0}, {X: full, Y: 5}})
	for _, test := range []struct {
		f    api.Feature
		v    api.Rat
		want int
	}{
		// The longest numbers.
		{sixteen(0, full), "1/1" + zeros, 0}, {sixteen(0, full), "-1/1" + zeros, 0}, {sixteen(0, full), nines, full}, {sixteen(0, full), "-" + nines, 0},
		{sixteen(0, full), "1" + zeros + "/" + nines, 0}, {sixteen(0, full), nines + "/1" + zeros, 10}, {sixteen(5, 9), nines + "/1" + zeros, 5},
		{through(sixteen(0, full), 1), "1/1" + zeros, 0}, {through(sixteen(0, full), 1), "1" + zeros + "/" + nines, 6554}, {through(sixteen(0, full), 1), nines + "/1" + zeros, 0},
		// Below and above the numbers at which raw values change.
		{sixteen(0, full), beside(1, 2, -1), 0}, {sixteen(0, full), beside(1, 2, 1), 1}, {sixteen(0, full), beside(131069, 2, -1), full - 1}, {sixteen(0, full), beside(131069, 2, 1), full},
		{eight(0, 255), beside(257, 2, -1), 0}, {eight(0, 255), beside(257, 2, 1), 1}, {eight(0, 255), beside(130813, 2, -1), 254}, {eight(0, 255), beside(130813, 2, 1), 255},
		{eight(0, 1), beside(65535, 2, -1), 0}, {eight(0, 1), beside(65535, 2, 1), 1}, {eight(10, 20), beside(13107, 4, -1), 10}, {eight(10, 20), beside(13107, 4, 1), 11},
		// Up within one level, and down within the next one.
		{through(sixteen(0, full), 1), beside(1, 131070, -1), 0}, {through(sixteen(0, full), 1), beside(1, 131070, 1), 1},
		{through(sixteen(0, full), 1), beside(131069, 131070, -1), full - 1}, {through(sixteen(0, full), 1), beside(131069, 131070, 1), full},
		{through(sixteen(0, full), 1), beside(131071, 131070, -1), full}, {through(sixteen(0, full), 1), beside(131071, 131070, 1), full - 1},
		{through(sixteen(0, full), 1), beside(262139, 131070, -1), 1}, {through(sixteen(0, full), 1), beside(262139, 131070, 1), 0},
		{through(eight(3, 4), 1), beside(1, 2, -1), 3}, {through(eight(3, 4), 1), beside(1, 2, 1), 4}, {through(eight(3, 4), 1), beside(3, 2, -1), 4}, {through(eight(3, 4), 1), beside(3, 2, 1), 3},
		// At both ends of the range, and at points of the curve.
		{through(sixteen(7, full), 1), beside(0, 1, -1), 7}, {through(sixteen(7, full), 1), beside(0, 1, 1), 7}, {sixteen(7, full), beside(full, 1, -1), full}, {sixteen(7, full), beside(full, 1, 1), full},
		{through(sixteen(0, full), 1), beside(1, 1, -1), full}, {through(sixteen(0, full), 1), beside(1, 1, 1), full}, {through(sixteen(0, full), 1), beside(2, 1, 1), 0},
	} {
		if got, e := profile.Raw(test.f, steep, test.v); got != test.want || e != api.OK {
			t.Errorf("Raw of %d to %d through %d at %.15s.. (%d bytes): got %d, %d, want %d", test.f.Low, test.f.High, test.f.Curve, test.v, len(test.v), got, e, test.want)
		}
	}
}

func TestLevel(t *testing.T) {
	narrow := list([]api.Point{{X: 0, Y: 0}, {X: 1, Y: 9}, {X: full, Y: full}}, []api.Point{{X: 0, Y: 500}, {X: 9, Y: 500}, {X: full, Y: 500}}, down(), tent())
	for _, test := range []struct {
		f         api.Feature
		raw, want int
		e         api.Errno
	}{
		{eight(0, 255), 0, 0, api.OK}, {eight(0, 255), 1, 129, api.OK}, {eight(0, 255), 128, 32768, api.OK}, {eight(0, 255), 255, 65407, api.OK},
		{eight(10, 20), 10, 0, api.OK}, {eight(10, 20), 11, 3277, api.OK}, {eight(10, 20), 20, 62259, api.OK}, {eight(7, 7), 7, 0, api.OK},
		{sixteen(0, full), 0, 0, api.OK}, {sixteen(0, full), 32768, 32768, api.OK}, {sixteen(0, full), full, full, api.OK},
		{through(sixteen(0, full), 1), 0, 0, api.OK}, {through(sixteen(0, full), 1), 9, 1, api.OK}, {through(sixteen(0, full), 1), 10, 2, api.OK},
		{through(sixteen(0, full), 1), 5, 0, api.ErrEmpty}, {through(sixteen(0, full), 1), 1, 0, api.ErrEmpty}, {through(sixteen(0, full), 1), full, full, api.OK},
		{through(sixteen(0, full), 2), 500, 0, api.OK}, {through(sixteen(0, full), 2), 499, 0, api.ErrEmpty}, {through(sixteen(0, full), 2), 501, 0, api.ErrEmpty}, {through(sixteen(0, full), 2), 0, 0, api.ErrEmpty},
		{through(eight(0, 255), 3), 191, 16320, api.OK}, {through(eight(0, 255), 3), 255, 0, api.OK}, {through(eight(0, 255), 3), 0, 65407, api.OK}, {through(eight(0, 1), 3), 0, 32768, api.OK},
		{through(sixteen(0, full), 4), 100, 0, api.OK}, {through(sixteen(0, full), 4), 99, 65428, api.OK}, {through(sixteen(0, full), 4), 60000, 1000, api.OK},
		{through(sixteen(0, full), 4), 59000, 2076, api.OK}, {through(sixteen(0, full), 4), 60001, 0, api.ErrEmpty}, {through(sixteen(0, full), 4), 0, full, api.OK},
		{eight(10, 20), 9, 0, api.ErrRange}, {eight(10, 20), 21, 0, api.ErrRange}, {eight(10, 20), -1, 0, api.ErrRange}, {eight(10, 20), 256, 0, api.ErrRange},
		{eight(10, 20), math.MinInt, 0, api.ErrRange}, {sixteen(10, full), math.MaxInt, 0, api.ErrRange}, {sixteen(0, full), full + 1, 0, api.ErrRange},
	} {
		if got, e := profile.Level(test.f, narrow, test.raw); got != test.want || e != test.e {
			t.Errorf("Level of %d to %d through %d at %d: got %d, %d, want %d, %d", test.f.Low, test.f.High, test.f.Curve, test.raw, got, e, test.want, test.e)
		}
	}
}

func TestBytes(t *testing.T) {
	for _, test := range []struct {
		f    api.Feature
		raw  int
		want []int
		e    api.Errno
	}{
		{eight(0, 255), 0, []int{0}, api.OK}, {eight(0, 255), 255, []int{255}, api.OK}, {eight(10, 20), 10, []int{10}, api.OK}, {eight(10, 20), 20, []int{20}, api.OK},
		{sixteen(0, full), 513, []int{2, 1}, api.OK}, {sixteen(0, full), 0, []int{0, 0}, api.OK}, {sixteen(0, full), 255, []int{0, 255}, api.OK},
		{sixteen(0, full), 256, []int{1, 0}, api.OK}, {sixteen(0, full), full, []int{255, 255}, api.OK}, {sixteen(3, 3), 3, []int{0, 3}, api.OK},
		{eight(10, 20), 9, nil, api.ErrRange}, {eight(10, 20), 21, nil, api.ErrRange}, {eight(0, 255), 256, nil, api.ErrRange}, {eight(0, 255), -1, nil, api.ErrRange},
		{sixteen(300, 400), 299, nil, api.ErrRange}, {sixteen(300, 400), 401, nil, api.ErrRange}, {sixteen(0, full), full + 1, nil, api.ErrRange},
		{sixteen(0, full), math.MinInt, nil, api.ErrRange}, {eight(0, 255), math.MaxInt, nil, api.ErrRange},
	} {
		if got, e := profile.Bytes(test.f, test.raw); !slices.Equal(got, test.want) || e != test.e {
			t.Errorf("Bytes of %d bits from %d to %d for %d: got %v, %d, want %v, %d", test.f.Bits, test.f.Low, test.f.High, test.raw, got, e, test.want, test.e)
		}
	}
}

func TestSlotAndMiddle(t *testing.T) {
	for v, want := range map[int]string{
		0: "open", 1: "open", 999: "open", 1000: "red", 2000: "red", 3000: "red", 4001: "dots_2", 9000: "x", 30000: "x", full: "x",
		3001: "", 4000: "", 4002: "", 8999: "",
	} {
		wantE := api.OK
		if want == "" {
			wantE = api.ErrNone
		}
		if got, e := profile.Slot(gobo(), v); got != want || e != wantE {
			t.Errorf("Slot(%d): got %q, %d, want %q, %d", v, got, e, want, wantE)
		}
		if got, e := profile.Slot(dimmer(), v); got != "" || e != api.ErrNone {
			t.Errorf("Slot(%d) without a wheel: got %q, %d, want ErrNone", v, got, e)
		}
	}
	for _, v := range outside(full) {
		for _, f := range []api.Feature{gobo(), dimmer()} {
			if got, e := profile.Slot(f, v); got != "" || e != api.ErrRange {
				t.Errorf("Slot(%d): got %q, %d, want ErrRange", v, got, e)
			}
		}
	}
	for name, want := range map[string]int{"open": 499, "red": 2000, "dots_2": 4001, "x": 37267} {
		if got, e := profile.Middle(gobo(), name); got != want || e != api.OK {
			t.Errorf("Middle(%q): got %d, %d, want %d", name, got, e, want)
		}
		if got, e := profile.Middle(pan(), name); got != 0 || e != api.ErrNone {
			t.Errorf("Middle(%q) without a wheel: got %d, %d, want ErrNone", name, got, e)
		}
	}
	for _, name := range append(badNames(), "ope", "opens", "moon", "dots") {
		if got, e := profile.Middle(gobo(), name); got != 0 || e != api.ErrNone {
			t.Errorf("Middle(%.30q): got %d, %d, want ErrNone", name, got, e)
		}
	}
}

// TestFeaturesAlone checks the errors of functions with a feature, each one alone and before those that come later.
func TestFeaturesAlone(t *testing.T) {
	faults := []struct {
		change func(f *api.Feature)
		want   api.Errno
	}{
		{func(f *api.Feature) { f.Bits = 0 }, api.ErrArg},
		{func(f *api.Feature) { f.Curve = 99 }, api.ErrNone},
		{func(f *api.Feature) { f.Home = -1 }, api.ErrRange},
		{func(f *api.Feature) { f.Low = 21 }, api.ErrRange},
		{func(f *api.Feature) { f.Wheel = append(slots(api.MaxWheel), api.Slot{}) }, api.ErrMany},
		{func(f *api.Feature) { f.Wheel[0].Name = "" }, api.ErrName},
		{func(f *api.Feature) { f.Wheel[1].Name = "open" }, api.ErrTwice},
		{func(f *api.Feature) { f.Wheel[2].To = 0 }, api.ErrRange},
		{func(f *api.Feature) { f.Wheel[3].From = 7 }, api.ErrOrder},
	}
	for i, first := range faults {
		for _, later := range faults[i:] {
			f, want := gobo(), first.want
			later.change(&f)
			first.change(&f)
			checkFeature(t, f, want, want)
			if first.want == api.ErrNone { // the functions without curves do not look at their number
				checkFeature(t, f, want, later.want)
			}
		}
	}
}

// checkFeature checks the errors of the functions with curves, and of those without, which have none if they find the
// number of a curve alone.
func checkFeature(t *testing.T, f api.Feature, withCurves, alone api.Errno) {
	t.Helper()
	for _, v := range []api.Rat{"1", "-1", "x", ""} {
		if got, e := profile.Raw(f, curves(), v); got != 0 || e != withCurves {
			t.Errorf("Raw(%v, %q): got %d, %d, want %d", f, v, got, e, withCurves)
		}
	}
	for _, n := range []int{15, 2000, -1, 1 << 20} {
		if got, e := profile.Level(f, curves(), n); got != 0 || e != withCurves {
			t.Errorf("Level(%v, %d): got %d, %d, want %d", f, n, got, e, withCurves)
		}
	}
	if alone == api.ErrNone {
		return
	}
	for _, n := range []int{15, 2000, -1, 1 << 20} {
		if got, e := profile.Bytes(f, n); len(got) != 0 || e != alone {
			t.Errorf("Bytes(%v, %d): got %v, %d, want %d", f, n, got, e, alone)
		}
		if got, e := profile.Slot(f, n); got != "" || e != alone {
			t.Errorf("Slot(%v, %d): got %q, %d, want %d", f, n, got, e, alone)
		}
	}
	for _, name := range []string{"red", "moon", ""} {
		if got, e := profile.Middle(f, name); got != 0 || e != alone {
			t.Errorf("Middle(%v, %q): got %d, %d, want %d", f, name, got, e, alone)
		}
	}
}

// TestPlacesDoNotMatter checks that functions with a feature look at nothing that is a matter of its profile, and those
// without curves at no number of a curve.
func TestPlacesDoNotMatter(t *testing.T) {
	for _, attr := range outside(api.Attrs - 1) {
		f := gobo()
		f.Attr, f.Coarse, f.Fine, f.Snap = attr, -attr, attr, false
		if got, e := profile.Raw(f, curves(), "1000"); got != 19 || e != api.OK {
			t.Errorf("Raw(%v): got %d, %d", f, got, e)
		}
		if got, e := profile.Level(f, curves(), 19); got != 929 || e != api.OK {
			t.Errorf("Level(%v): got %d, %d", f, got, e)
		}
		f.Curve = attr
		if got, e := profile.Bytes(f, 19); !slices.Equal(got, []int{19}) || e != api.OK {
			t.Errorf("Bytes(%v): got %v, %d", f, got, e)
		}
		if got, e := profile.Slot(f, 1000); got != "red" || e != api.OK {
			t.Errorf("Slot(%v): got %q, %d", f, got, e)
		}
		if got, e := profile.Middle(f, "red"); got != 2000 || e != api.OK {
			t.Errorf("Middle(%v): got %d, %d", f, got, e)
		}
	}
}

func TestClassAndHighest(t *testing.T) {
	classes := [api.Attrs]int{
		api.AttrIntensity: api.ClassIntensity, api.AttrPan: api.ClassPosition, api.AttrTilt: api.ClassPosition,
		api.AttrRed: api.ClassColour, api.AttrGreen: api.ClassColour, api.AttrBlue: api.ClassColour, api.AttrWhite: api.ClassColour,
		api.AttrAmber: api.ClassColour, api.AttrCyan: api.ClassColour, api.AttrMagenta: api.ClassColour, api.AttrYellow: api.ClassColour,
		api.AttrGobo: api.ClassBeam, api.AttrShutter: api.ClassBeam, api.AttrZoom: api.ClassBeam, api.AttrFocus: api.ClassBeam,
	}
	for attr, want := range classes {
		if got, e := profile.Class(attr); got != want || e != api.OK {
			t.Errorf("Class(%d): got %d, %d, want %d", attr, got, e, want)
		}
		if got, e := profile.Highest(attr); got != (attr == 0) || e != api.OK {
			t.Errorf("Highest(%d): got %v, %d", attr, got, e)
		}
	}
	for _, attr := range outside(api.Attrs - 1) {
		if got, e := profile.Class(attr); got != 0 || e != api.ErrArg {
			t.Errorf("Class(%d): got %d, %d, want ErrArg", attr, got, e)
		}
		if got, e := profile.Highest(attr); got || e != api.ErrArg {
			t.Errorf("Highest(%d): got %v, %d, want ErrArg", attr, got, e)
		}
	}
}
