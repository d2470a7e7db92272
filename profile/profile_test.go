package profile_test

import (
	"math"
	"slices"
	"strings"
	"testing"

	"luminaire/api"
	"luminaire/profile"
)

const full = api.MaxLevel

// list returns the curves that it is given.
func list(l ...[]api.Point) [][]api.Point { return l }

func straight() []api.Point { return []api.Point{{X: 0, Y: 0}, {X: full, Y: full}} }
func down() []api.Point     { return []api.Point{{X: 0, Y: full}, {X: full, Y: 0}} }
func tent() []api.Point     { return []api.Point{{X: 0, Y: 100}, {X: 1000, Y: 60000}, {X: full, Y: 0}} }

// curves returns those of the show of most tests.
func curves() [][]api.Point { return list(straight(), down(), tent()) }

func wheel() []api.Slot {
	return []api.Slot{{Name: "open", From: 0, To: 999}, {Name: "red", From: 1000, To: 3000}, {Name: "dots_2", From: 4001, To: 4001}, {Name: "x", From: 9000, To: full}}
}

// dimmer, pan and gobo are the features of spot.
func dimmer() api.Feature {
	return api.Feature{Attr: api.AttrIntensity, Bits: 8, Coarse: 0, Curve: 1, High: 255}
}

func pan() api.Feature {
	return api.Feature{Attr: api.AttrPan, Bits: 16, Coarse: 2, Fine: 1, Home: 32768, High: full}
}

func gobo() api.Feature {
	return api.Feature{Attr: api.AttrGobo, Bits: 8, Coarse: 4, Curve: 3, Home: full, Low: 10, High: 20, Snap: true, Wheel: wheel()}
}

// spot returns a profile without an error.
func spot() api.Profile {
	return api.Profile{Name: "spot", Footprint: 5, Watts: 700, Features: []api.Feature{dimmer(), pan(), gobo()}}
}

// outside returns ints that are less than 0 or greater than a limit.
func outside(limit int) []int {
	return []int{-1, limit + 1, limit + 1 + 1<<32, math.MinInt, math.MaxInt}
}

// badNames returns texts that are no names.
func badNames() []string {
	return []string{
		"", " ", "A", "Spot", "sPot", "1", "1a", "_", "_a", "-", "a b", " a", "a ", "a-b", "a.b", "a\n", `"a"`, `""`, "a\x00", "\u00e9", "a\u00e9", "a{", "a`", "a/", "a:", "a@", "a[",
		strings.Repeat("a", api.MaxName+1), strings.Repeat("a", api.MaxText+1), strings.Repeat("a", 1<<17),
	}
}

func TestRightProfiles(t *testing.T) {
	for name, change := range map[string]func(p *api.Profile){
		"nothing":           func(p *api.Profile) {},
		"no features":       func(p *api.Profile) { p.Features = nil },
		"no watts":          func(p *api.Profile) { p.Watts = 0 },
		"most watts":        func(p *api.Profile) { p.Watts = api.MaxNumber },
		"a short name":      func(p *api.Profile) { p.Name = "a" },
		"a long name":       func(p *api.Profile) { p.Name = "z" + strings.Repeat("_", api.MaxName-2) + "9" },
		"the last slot":     func(p *api.Profile) { p.Footprint, p.Features[0].Coarse = api.MaxSlots, api.MaxSlots-1 },
		"one slot":          func(p *api.Profile) { p.Footprint, p.Features = 1, p.Features[:1] },
		"the last attr":     func(p *api.Profile) { p.Features[0].Attr = api.Attrs - 1 },
		"the straight one":  func(p *api.Profile) { p.Features[0].Curve = 0 },
		"the last curve":    func(p *api.Profile) { p.Features[0].Curve = 3 },
		"home":              func(p *api.Profile) { p.Features[0].Home = full },
		"one raw value":     func(p *api.Profile) { p.Features[0].Low = 255 },
		"only 0":            func(p *api.Profile) { p.Features[0].High = 0 },
		"the last of 16":    func(p *api.Profile) { p.Features[1].Low = full },
		"few of 16":         func(p *api.Profile) { p.Features[1].High = 9 },
		"no wheel":          func(p *api.Profile) { p.Features[2].Wheel = []api.Slot{} },
		"a slot":            func(p *api.Profile) { p.Features[2].Wheel = []api.Slot{{Name: "a", From: 0, To: full}} },
		"slots side by":     func(p *api.Profile) { p.Features[2].Wheel = []api.Slot{{Name: "a"}, {Name: "b", From: 1, To: full}} },
		"most slots":        func(p *api.Profile) { p.Features[2].Wheel = slots(api.MaxWheel) },
		"a wheel for all":   func(p *api.Profile) { p.Features[0].Wheel = wheel() },
		"a name of slots":   func(p *api.Profile) { p.Features[0].Wheel, p.Name = wheel(), "red" },
		"home in no slot":   func(p *api.Profile) { p.Features[2].Home = 3500 },
		"fine below coarse": func(p *api.Profile) { p.Features[1].Fine, p.Features[1].Coarse = 3, 1 },
		"as many features":  func(p *api.Profile) { p.Footprint, p.Features = api.MaxSlots, features(api.Attrs) },
	} {
		p := spot()
		change(&p)
		if e := profile.Check(p, curves()); e != api.OK {
			t.Errorf("Check, %s: got %d", name, e)
		}
	}
	many := slices.Repeat(list(straight()), api.MaxCurves)
	p := spot()
	p.Features[0].Curve = api.MaxCurves
	if e := profile.Check(p, many); e != api.OK {
		t.Errorf("Check with as many curves as possible: got %d", e)
	}
	p.Features = p.Features[1:2]
	if e := profile.Check(p, nil); e != api.OK {
		t.Errorf("Check without curves: got %d", e)
	}
}

// slots returns a wheel with a number of slots.
func slots(n int) []api.Slot {
	l := make([]api.Slot, n)
	for i := range l {
		l[i] = api.Slot{Name: "s" + strings.Repeat("_", i), From: 2 * i, To: 2*i + 1}
	}
	return l
}

// features returns features with attributes and offsets of their own.
func features(n int) []api.Feature {
	l := make([]api.Feature, n)
	for i := range l {
		l[i] = api.Feature{Attr: i, Bits: 8 + i%2*8, Coarse: 2 * i, Fine: i % 2 * (2*i + 1), High: 255}
	}
	return l
}

// fault makes a right profile, or its curves, wrong in one way.
type fault struct {
	name   string
	change func(p *api.Profile, curves *[][]api.Point)
	want   api.Errno
}

// ofFeature returns the fault that changes the second feature, which has 16 bits.
func ofFeature(name string, want api.Errno, change func(f *api.Feature)) fault {
	return fault{name, func(p *api.Profile, _ *[][]api.Point) { change(&p.Features[1]) }, want}
}

// ofProfile returns the fault that changes what is in the profile.
func ofProfile(name string, want api.Errno, change func(p *api.Profile)) fault {
	return fault{name, func(p *api.Profile, _ *[][]api.Point) { change(p) }, want}
}

// faults returns one fault or more of each kind, in the order in which the document lists the errors.
func faults() [][]fault {
	return [][]fault{
		{{"many curves", func(_ *api.Profile, curves *[][]api.Point) {
			*curves = append(slices.Repeat(list(straight()), api.MaxCurves), (*curves)[0])
		}, api.ErrMany}},
		{{"a wrong curve", func(_ *api.Profile, curves *[][]api.Point) { (*curves)[0] = nil }, api.ErrShape}},
		{ofProfile("name", api.ErrName, func(p *api.Profile) { p.Name = "Spot" })},
		{ofProfile("footprint", api.ErrRange, func(p *api.Profile) { p.Footprint = 0 }), ofProfile("footprint", api.ErrRange, func(p *api.Profile) { p.Footprint = api.MaxSlots + 1 })},
		{ofProfile("watts", api.ErrRange, func(p *api.Profile) { p.Watts = -1 }), ofProfile("watts", api.ErrRange, func(p *api.Profile) { p.Watts = api.MaxNumber + 1 })},
		{ofProfile("many features", api.ErrMany, func(p *api.Profile) { p.Features = append(p.Features, make([]api.Feature, api.MaxFeatures-2)...) })},
		{ofFeature("no attribute", api.ErrArg, func(f *api.Feature) { f.Attr = -1 }), ofFeature("no attribute", api.ErrArg, func(f *api.Feature) { f.Attr = api.Attrs })},
		{ofFeature("an earlier attribute", api.ErrTwice, func(f *api.Feature) { f.Attr = api.AttrIntensity })},
		{ofFeature("bits", api.ErrArg, func(f *api.Feature) { f.Bits = 12 }), ofFeature("bits", api.ErrArg, func(f *api.Feature) { f.Bits = 0 })},
		{ofFeature("coarse", api.ErrRange, func(f *api.Feature) { f.Coarse = -1 }), ofFeature("coarse", api.ErrRange, func(f *api.Feature) { f.Coarse = 5 })},
		{ofFeature("an earlier offset", api.ErrUse, func(f *api.Feature) { f.Fine = 0 }), ofFeature("both offsets", api.ErrUse, func(f *api.Feature) { f.Fine = f.Coarse })},
		{ofFeature("no curve", api.ErrNone, func(f *api.Feature) { f.Curve = -1 }), ofFeature("no curve", api.ErrNone, func(f *api.Feature) { f.Curve = 99 })},
		{ofFeature("home", api.ErrRange, func(f *api.Feature) { f.Home = -1 })},
		{ofFeature("low", api.ErrRange, func(f *api.Feature) { f.Low = -1 }), ofFeature("high", api.ErrRange, func(f *api.Feature) { f.High = full + 1 })},
		{ofFeature("many slots", api.ErrMany, func(f *api.Feature) { f.Wheel = append(slots(api.MaxWheel), f.Wheel...) })},
		{ofFeature("name of a slot", api.ErrName, func(f *api.Feature) { f.Wheel[1].Name = "Red" })},
		{ofFeature("an earlier name", api.ErrTwice, func(f *api.Feature) { f.Wheel[1].Name = "open" })},
		{ofFeature("from", api.ErrRange, func(f *api.Feature) { f.Wheel[1].From = -1 }), ofFeature("to", api.ErrRange, func(f *api.Feature) { f.Wheel[1].To = 1 })},
		{ofFeature("the order", api.ErrOrder, func(f *api.Feature) { f.Wheel[1].From = 999 })},
		{ofProfile("a later feature", api.ErrArg, func(p *api.Profile) { p.Features[2].Attr = -1 })},
	}
}

// TestOrderOfErrors makes profiles wrong in one way, and in two ways at once, of which the first one is reported.
func TestOrderOfErrors(t *testing.T) {
	all := faults()
	for i, first := range all {
		for _, a := range first {
			checkFaults(t, a.want, a)
			for _, later := range all[i+1:] {
				for _, b := range later {
					// The later fault first: some replace what the other one has changed.
					checkFaults(t, a.want, b, a)
				}
			}
		}
	}
}

// checkFaults checks the error of a profile with some faults, for Check and for Find.
func checkFaults(t *testing.T, want api.Errno, faults ...fault) {
	t.Helper()
	p, l := spot(), list(straight(), down(), tent())
	p.Features[1].Wheel = wheel()
	names := ""
	for _, f := range faults {
		f.change(&p, &l)
		names += ", " + f.name
	}
	if e := profile.Check(p, l); e != want {
		t.Errorf("Check%s: got %d, want %d", names, e, want)
	}
	for _, attr := range []int{api.AttrIntensity, api.AttrPan, api.AttrFocus, -1} {
		if i, e := profile.Find(p, l, attr); i != 0 || e != want {
			t.Errorf("Find%s: got %d, %d, want %d", names, i, e, want)
		}
	}
}

// checkProfile checks the error of a profile that is changed by a function.
func checkProfile(t *testing.T, want api.Errno, name string, change func(p *api.Profile)) {
	t.Helper()
	p := spot()
	change(&p)
	if e := profile.Check(p, curves()); e != want {
		t.Errorf("Check, %s: got %d, want %d", name, e, want)
	}
}

func TestWrongProfiles(t *testing.T) {
	for _, name := range badNames() {
		checkProfile(t, api.ErrName, "name "+name[:min(len(name), 30)], func(p *api.Profile) { p.Name = name })
		checkProfile(t, api.ErrName, "slot "+name[:min(len(name), 30)], func(p *api.Profile) { p.Features[2].Wheel[3].Name = name })
	}
	for _, n := range outside(api.MaxSlots) {
		checkProfile(t, api.ErrRange, "footprint", func(p *api.Profile) { p.Footprint = n })
	}
	for _, n := range outside(api.MaxNumber) {
		checkProfile(t, api.ErrRange, "watts", func(p *api.Profile) { p.Watts = n })
	}
	for _, n := range outside(api.Attrs - 1) {
		checkProfile(t, api.ErrArg, "attribute", func(p *api.Profile) { p.Features[2].Attr = n })
	}
	for _, n := range []int{0, 1, 7, 9, 15, 17, 24, 32, -8, -16, 8 + 1<<32, math.MinInt, math.MaxInt} {
		checkProfile(t, api.ErrArg, "bits", func(p *api.Profile) { p.Features[2].Bits = n })
	}
	for _, n := range outside(4) {
		checkProfile(t, api.ErrRange, "coarse of 8 bits", func(p *api.Profile) { p.Features[0].Coarse = n })
		checkProfile(t, api.ErrRange, "coarse of 16 bits", func(p *api.Profile) { p.Features[1].Coarse = n })
		checkProfile(t, api.ErrRange, "fine of 16 bits", func(p *api.Profile) { p.Features[1].Fine = n })
	}
	for _, n := range []int{1, 3, 4, 5, -1, math.MinInt, math.MaxInt} {
		checkProfile(t, api.ErrForm, "fine of 8 bits", func(p *api.Profile) { p.Features[0].Fine = n })
	}
	for _, n := range outside(3) {
		checkProfile(t, api.ErrNone, "curve", func(p *api.Profile) { p.Features[2].Curve = n })
	}
	for _, n := range outside(full) {
		checkProfile(t, api.ErrRange, "home", func(p *api.Profile) { p.Features[2].Home = n })
		checkProfile(t, api.ErrRange, "low", func(p *api.Profile) { p.Features[1].Low = n })
		checkProfile(t, api.ErrRange, "high", func(p *api.Profile) { p.Features[1].High = n })
		checkProfile(t, api.ErrRange, "from", func(p *api.Profile) { p.Features[2].Wheel[3].From = n })
		checkProfile(t, api.ErrRange, "to", func(p *api.Profile) { p.Features[2].Wheel[3].To = n })
	}
	for _, n := range append(outside(255), 65535) {
		checkProfile(t, api.ErrRange, "high of 8 bits", func(p *api.Profile) { p.Features[0].High = n })
	}
}

func TestOtherWrongProfiles(t *testing.T) {
	for _, test := range []struct {
		name   string
		want   api.Errno
		change func(p *api.Profile)
	}{
		{"offset of an earlier byte", api.ErrUse, func(p *api.Profile) { p.Features[2].Coarse = 0 }},
		{"offset of an earlier upper byte", api.ErrUse, func(p *api.Profile) { p.Features[2].Coarse = 2 }},
		{"offset of an earlier lower byte", api.ErrUse, func(p *api.Profile) { p.Features[2].Coarse = 1 }},
		{"upper byte at an earlier one", api.ErrUse, func(p *api.Profile) { p.Features[1].Coarse = 0 }},
		{"the form before the use", api.ErrForm, func(p *api.Profile) { p.Features[2].Coarse, p.Features[2].Fine = 0, 3 }},
		{"the range before the form", api.ErrRange, func(p *api.Profile) { p.Features[2].Coarse, p.Features[2].Fine = 5, 3 }},
		{"fine with 8 bits beyond all", api.ErrForm, func(p *api.Profile) { p.Features[2].Fine = 5 }},
		{"the form before the curve", api.ErrForm, func(p *api.Profile) { p.Features[2].Fine, p.Features[2].Curve = 3, 4 }},
		{"low above high", api.ErrRange, func(p *api.Profile) { p.Features[2].Low = 21 }},
		{"high below 0", api.ErrRange, func(p *api.Profile) { p.Features[2].Low, p.Features[2].High = -2, -1 }},
		{"features at one place", api.ErrTwice, func(p *api.Profile) { p.Features[2] = p.Features[1] }},
		{"an attribute of the first of three", api.ErrTwice, func(p *api.Profile) { p.Features[2].Attr = api.AttrIntensity }},
		{"the first feature", api.ErrRange, func(p *api.Profile) { p.Features[0].Home, p.Features[1].Bits = -1, 0 }},
		{"more features than attributes", api.ErrTwice, func(p *api.Profile) {
			p.Footprint, p.Features = api.MaxSlots, append(features(api.Attrs), features(1)...)
		}},
		{"too many features", api.ErrMany, func(p *api.Profile) { p.Features = make([]api.Feature, api.MaxFeatures+1) }},
		{"the most features", api.ErrArg, func(p *api.Profile) { p.Features = make([]api.Feature, api.MaxFeatures) }},
		{"too many slots", api.ErrMany, func(p *api.Profile) { p.Features[2].Wheel = slots(api.MaxWheel + 1) }},
		{"slots without names", api.ErrName, func(p *api.Profile) { p.Features[2].Wheel = make([]api.Slot, api.MaxWheel) }},
		{"a name of the first of three slots", api.ErrTwice, func(p *api.Profile) { p.Features[2].Wheel[2].Name = "open" }},
		{"to below from", api.ErrRange, func(p *api.Profile) { p.Features[2].Wheel[2].To = 4000 }},
		{"from at the end before", api.ErrOrder, func(p *api.Profile) { p.Features[2].Wheel[2].From = 3000 }},
		{"slots in descending order", api.ErrOrder, func(p *api.Profile) { slices.Reverse(p.Features[2].Wheel) }},
		{"the first slot with an error", api.ErrOrder, func(p *api.Profile) {
			p.Features[2].Wheel[1].From, p.Features[2].Wheel[2].Name = 5, ""
		}},
		{"the range before a later name", api.ErrRange, func(p *api.Profile) {
			p.Features[2].Wheel[1].To, p.Features[2].Wheel[2].Name = 5, ""
		}},
	} {
		checkProfile(t, test.want, test.name, test.change)
	}
}

func TestCurvesOfCheck(t *testing.T) {
	wrong := []api.Point{{X: 0, Y: -1}, {X: full, Y: 0}}
	for _, test := range []struct {
		l    [][]api.Point
		want api.Errno
	}{
		{slices.Repeat(list(straight()), api.MaxCurves+1), api.ErrMany}, {make([][]api.Point, api.MaxCurves+1), api.ErrMany},
		{make([][]api.Point, api.MaxCurves), api.ErrShape}, {list(straight(), straight(), straight(), nil), api.ErrShape},
		{list(straight(), down(), wrong, nil), api.ErrRange}, {list(straight(), down(), nil, wrong), api.ErrShape}, {list(straight(), straight()), api.ErrNone},
	} {
		if e := profile.Check(spot(), test.l); e != test.want {
			t.Errorf("Check with %d curves: got %d, want %d", len(test.l), e, test.want)
		}
		if got, e := profile.Find(spot(), test.l, api.AttrGobo); got != 0 || e != test.want {
			t.Errorf("Find with %d curves: got %d, %d, want %d", len(test.l), got, e, test.want)
		}
		if got, e := profile.Raw(gobo(), test.l, "x"); got != 0 || e != test.want {
			t.Errorf("Raw with %d curves: got %d, %d, want %d", len(test.l), got, e, test.want)
		}
		if got, e := profile.Level(gobo(), test.l, 9); got != 0 || e != test.want {
			t.Errorf("Level with %d curves: got %d, %d, want %d", len(test.l), got, e, test.want)
		}
	}
}

func TestFind(t *testing.T) {
	for _, test := range []struct {
		attr, want int
		e          api.Errno
	}{
		{api.AttrIntensity, 0, api.OK}, {api.AttrPan, 1, api.OK}, {api.AttrGobo, 2, api.OK}, {api.AttrTilt, 0, api.ErrNone}, {api.AttrFocus, 0, api.ErrNone},
		{api.Attrs, 0, api.ErrNone}, {-1, 0, api.ErrNone}, {math.MinInt, 0, api.ErrNone}, {math.MaxInt, 0, api.ErrNone},
	} {
		if got, e := profile.Find(spot(), curves(), test.attr); got != test.want || e != test.e {
			t.Errorf("Find(%d): got %d, %d, want %d, %d", test.attr, got, e, test.want, test.e)
		}
	}
	if got, e := profile.Find(api.Profile{Name: "a", Footprint: 1}, nil, 0); got != 0 || e != api.ErrNone {
		t.Errorf("Find without features: got %d, %d", got, e)
	}
}
