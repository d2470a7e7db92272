package patch_test

import (
	"math"
	"reflect"
	"slices"
	"strings"
	"testing"

	"luminaire/api"
	"luminaire/patch"
)

type (
	fixtures = []api.Fixture
	profiles = []api.Profile
)

func feature(attr int) api.Feature { return api.Feature{Attr: attr, Bits: 8, High: 255} }

func zoom() api.Feature {
	return api.Feature{Attr: api.AttrZoom, Bits: 16, Coarse: 1, Fine: 3, Curve: 2, Home: 5, Low: 7, High: 9, Snap: true, Wheel: []api.Slot{{Name: "open", To: 9}, {Name: "red", From: 10, To: 20}}}
}

// types returns the profiles of most tests. The second par is never found, and one profile has no name.
func types() profiles {
	return profiles{
		{Name: "par", Footprint: 1, Features: []api.Feature{feature(api.AttrIntensity)}},
		{Name: "spot", Footprint: 6, Features: []api.Feature{feature(api.AttrIntensity), feature(api.AttrPan)}},
		{Name: "par", Footprint: 400, Watts: 9, Features: []api.Feature{feature(api.AttrTilt)}},
		{Name: "head", Footprint: 10, Features: []api.Feature{feature(api.AttrTilt), zoom(), feature(api.AttrPan), feature(api.AttrZoom)}},
		{Name: "", Footprint: 2},
		{Name: "Odd name!", Footprint: 3, Watts: -9, Features: []api.Feature{feature(-5), feature(1 << 40), feature(api.Attrs), feature(-5)}},
		{Name: "full", Footprint: api.MaxSlots},
		{Name: "none", Footprint: 0},
		{Name: "long", Footprint: api.MaxSlots + 1},
		{Name: "least", Footprint: math.MinInt},
		{Name: "most", Footprint: math.MaxInt},
	}
}

// at returns a fixture with a phase, at an address.
func at(channel, part int, profile string, universe, address int) api.Fixture {
	return api.Fixture{Channel: channel, Part: part, Profile: profile, Universe: universe, Address: address, Phase: 1}
}

// stage returns the fixtures of most tests.
func stage() fixtures {
	return fixtures{at(4, 2, "par", 1, 7), at(4, 1, "spot", 1, 1), at(999, 64, "head", 8, 503), at(9, 1, "head", 1, 100), at(9, 5, "", 1, 110), at(9, 3, "Odd name!", 3, 1)}
}

// outside returns ints that are not from 1 to a limit.
func outside(limit int) []int {
	return []int{0, -1, limit + 1, limit + 1<<32, 1 - 1<<32, math.MinInt, math.MaxInt}
}

// badNames returns texts that are no names, but not empty.
func badNames() []string {
	return []string{
		" ", "A", "Cable", "cAble", "1", "1a", "_", "_a", "-", "a b", " a", "a ", "a-b", "a.b", "a\n", `"a"`, `""`, "a\x00", "\u00e9", "a\u00e9", "a{", "a`", "a/", "a:", "a@", "a[",
		strings.Repeat("a", api.MaxName+1), strings.Repeat("a", api.MaxText+1), strings.Repeat("a", 1<<17),
	}
}

func TestRightFixtures(t *testing.T) {
	for name, l := range map[string]fixtures{
		"none": nil, "empty": {}, "all": stage(), "side by side": {at(1, 1, "par", 1, 7), at(1, 2, "spot", 1, 1), at(1, 3, "spot", 1, 8)},
		"the first slot": {at(1, 1, "par", 1, 1)}, "the last slot": {at(1, 1, "par", 8, 512)}, "the last slots": {at(1, 1, "head", 8, 503)}, "all slots": {at(1, 1, "full", 2, 1)},
		"one slot of many universes": {at(1, 1, "par", 1, 5), at(2, 1, "par", 2, 5), at(3, 1, "par", 8, 5)},
		"one part of many channels":  {at(1, 2, "par", 1, 1), at(2, 2, "par", 1, 2), at(2, 1, "par", 1, 3)},
		"cables":                     {{Channel: 1, Part: 1, Profile: "par", Universe: 1, Address: 1, Phase: 3, Cable: "a"}, {Channel: 2, Part: 1, Profile: "par", Universe: 1, Address: 2, Phase: 2, Cable: "z" + strings.Repeat("_", api.MaxName-2) + "9"}, {Channel: 3, Part: 1, Profile: "par", Universe: 1, Address: 3, Phase: 1, Cable: "a"}},
		"profiles that are no names": {at(1, 1, "", 1, 1), at(1, 2, "Odd name!", 1, 3)},
		"as many as possible":        many(api.MaxFixtures),
	} {
		if e := patch.Check(l, types()); e != api.OK {
			t.Errorf("Check, %s: got %d", name, e)
		}
	}
	as := append(types(), slices.Repeat(profiles{{}}, api.MaxProfiles-len(types()))...)
	as[api.MaxProfiles-1] = api.Profile{Name: "last", Footprint: 7}
	if e := patch.Check(fixtures{at(1, 1, "last", 1, 506)}, as); e != api.OK {
		t.Errorf("Check with as many profiles as possible: got %d", e)
	}
	if e := patch.Check(nil, nil); e != api.OK {
		t.Errorf("Check of nothing: got %d", e)
	}
}

// many returns some fixtures without an error.
func many(n int) fixtures {
	l := make(fixtures, n)
	for i := range l {
		l[i] = at(1+i/8, 1+i%8, "par", 1+i%8, 1+i/8)
	}
	return l
}

// fault makes right fixtures, or their profiles, wrong in one way.
type fault struct {
	name   string
	want   api.Errno
	change func(l *fixtures, p *profiles)
}

// ofFixture returns the fault that changes the fourth fixture, which is the second head.
func ofFixture(name string, want api.Errno, change func(x *api.Fixture)) fault {
	return fault{name, want, func(l *fixtures, _ *profiles) { change(&(*l)[3]) }}
}

// faults returns one fault or more of each kind, in the order in which the document lists the errors.
func faults() [][]fault {
	return [][]fault{
		{{"many profiles", api.ErrMany, func(_ *fixtures, p *profiles) { *p = append(*p, make(profiles, api.MaxProfiles+1-len(*p))...) }}},
		{{"many fixtures", api.ErrMany, func(l *fixtures, _ *profiles) { *l = append(*l, make(fixtures, api.MaxFixtures+1-len(*l))...) }}},
		{{"an earlier fixture", api.ErrName, func(l *fixtures, _ *profiles) { (*l)[0].Cable = "?" }}},
		{
			ofFixture("channel", api.ErrRange, func(x *api.Fixture) { x.Channel = 1000 }), ofFixture("part", api.ErrRange, func(x *api.Fixture) { x.Part = 0 }),
			ofFixture("universe", api.ErrRange, func(x *api.Fixture) { x.Universe = 9 }), ofFixture("address", api.ErrRange, func(x *api.Fixture) { x.Address = 0 }),
			ofFixture("phase", api.ErrRange, func(x *api.Fixture) { x.Phase = 4 }),
		},
		{ofFixture("cable", api.ErrName, func(x *api.Fixture) { x.Cable = "9" })},
		{ofFixture("no profile", api.ErrNone, func(x *api.Fixture) { x.Profile = "laser" })},
		{ofFixture("no slots", api.ErrRange, func(x *api.Fixture) { x.Profile = "none" }), ofFixture("many slots", api.ErrRange, func(x *api.Fixture) { x.Profile = "long" })},
		{ofFixture("an earlier part", api.ErrTwice, func(x *api.Fixture) { x.Channel, x.Part = 4, 2 })},
		{ofFixture("an earlier slot", api.ErrOverlap, func(x *api.Fixture) { x.Universe, x.Address = 1, 6 })},
		{{"a later fixture", api.ErrNone, func(l *fixtures, _ *profiles) { (*l)[4].Profile = "laser" }}},
	}
}

// changed returns the fixtures and the profiles of most tests with some faults.
func changed(faults ...fault) (l fixtures, p profiles, names string) {
	l, p = stage(), types()
	for _, f := range faults {
		f.change(&l, &p)
		names += ", " + f.name
	}
	return l, p, names
}

// TestOrderOfErrors makes fixtures wrong in one way, and in two ways at once, of which the first one is reported.
func TestOrderOfErrors(t *testing.T) {
	all := faults()
	for i, first := range all {
		for _, a := range first {
			checkFaults(t, a.want, a)
			for _, later := range all[i+1:] {
				for _, b := range later {
					// The later fault first: some replace what the other one has changed.
					checkFaults(t, a.want, b, a)
				}
			}
		}
	}
}

// checkFaults checks that all functions return the error of fixtures with some faults, and nothing beside it.
func checkFaults(t *testing.T, want api.Errno, faults ...fault) {
	t.Helper()
	l, p, names := changed(faults...)
	if e := patch.Check(l, p); e != want {
		t.Errorf("Check%s: got %d, want %d", names, e, want)
	}
	for _, n := range []int{1, 4, 9, 0, 1000} {
		if got, e := patch.Find(l, p, n); len(got) != 0 || e != want {
			t.Errorf("Find%s: got %v, %d, want %d", names, got, e, want)
		}
		if i, offset, used, e := patch.At(l, p, n, 1); i != 0 || offset != 0 || used || e != want {
			t.Errorf("At%s: got %d, %d, %v, %d, want %d", names, i, offset, used, e, want)
		}
		if got, e := patch.Attrs(l, p, n); len(got) != 0 || e != want {
			t.Errorf("Attrs%s: got %v, %d, want %d", names, got, e, want)
		}
		if x, f, found, e := patch.First(l, p, api.Param{Channel: n}); x != (api.Fixture{}) || !reflect.DeepEqual(f, api.Feature{}) || found || e != want {
			t.Errorf("First%s: got %v, %v, %v, %d, want %d", names, x, f, found, e, want)
		}
		if address, e := patch.Free(l, p, n, n); address != 0 || e != want {
			t.Errorf("Free%s: got %d, %d, want %d", names, address, e, want)
		}
		if used, e := patch.Used(l, p, n); used != 0 || e != want {
			t.Errorf("Used%s: got %d, %d, want %d", names, used, e, want)
		}
		if got, e := patch.Put(l, p, at(n, 1, "par", 2, 1)); len(got) != 0 || e != want {
			t.Errorf("Put%s: got %v, %d, want %d", names, got, e, want)
		}
		if got, dropped, e := patch.Drop(l, p, n, 1); len(got) != 0 || dropped || e != want {
			t.Errorf("Drop%s: got %v, %v, %d, want %d", names, got, dropped, e, want)
		}
		if got, e := patch.Move(l, p, at(n, 1, "", 0, 0), at(0, 0, "", 2, 1)); len(got) != 0 || e != want {
			t.Errorf("Move%s: got %v, %d, want %d", names, got, e, want)
		}
	}
}

// checkFixture checks the error of fixtures of which one is changed by a function.
func checkFixture(t *testing.T, want api.Errno, name string, i int, change func(x *api.Fixture)) {
	t.Helper()
	l := stage()
	change(&l[i])
	if e := patch.Check(l, types()); e != want {
		t.Errorf("Check, %s of the fixture %d: got %d, want %d", name, i, e, want)
	}
}

func TestWrongFixtures(t *testing.T) {
	for i := range stage() {
		for _, n := range outside(api.MaxChannel) {
			checkFixture(t, api.ErrRange, "channel", i, func(x *api.Fixture) { x.Channel = n })
		}
		for _, n := range outside(api.MaxFixtures) {
			checkFixture(t, api.ErrRange, "part", i, func(x *api.Fixture) { x.Part = n })
		}
		for _, n := range outside(api.MaxUniverses) {
			checkFixture(t, api.ErrRange, "universe", i, func(x *api.Fixture) { x.Universe = n })
		}
		for _, n := range outside(api.MaxSlots) {
			checkFixture(t, api.ErrRange, "address", i, func(x *api.Fixture) { x.Address = n })
		}
		for _, n := range outside(3) {
			checkFixture(t, api.ErrRange, "phase", i, func(x *api.Fixture) { x.Phase = n })
		}
		for _, s := range badNames() {
			checkFixture(t, api.ErrName, "cable "+s[:min(len(s), 30)], i, func(x *api.Fixture) { x.Cable = s })
		}
		for _, s := range []string{"laser", "Par", "par ", "pa", "parr"} {
			checkFixture(t, api.ErrNone, "profile "+s, i, func(x *api.Fixture) { x.Profile = s })
		}
		for _, s := range []string{"none", "long", "least", "most"} {
			checkFixture(t, api.ErrRange, "profile "+s, i, func(x *api.Fixture) { x.Profile = s })
			checkFixture(t, api.ErrRange, "address and profile "+s, i, func(x *api.Fixture) { x.Profile, x.Address = s, 1 })
		}
		checkFixture(t, api.ErrRange, "all slots", i, func(x *api.Fixture) { x.Profile, x.Universe, x.Address = "full", 5, 2 })
		checkFixture(t, api.OK, "all slots", i, func(x *api.Fixture) { x.Profile, x.Universe, x.Address = "full", 5, 1 })
		checkFixture(t, api.ErrRange, "the last slot", i, func(x *api.Fixture) { x.Profile, x.Universe, x.Address = "head", 5, 504 })
		checkFixture(t, api.OK, "the last slot", i, func(x *api.Fixture) { x.Profile, x.Universe, x.Address = "head", 5, 503 })
	}
}

func TestPairsOfFixtures(t *testing.T) {
	for _, test := range []struct {
		l    fixtures
		want api.Errno
	}{
		{fixtures{at(1, 1, "spot", 1, 1), at(2, 1, "par", 1, 6)}, api.ErrOverlap}, {fixtures{at(1, 1, "spot", 1, 1), at(2, 1, "par", 1, 7)}, api.OK},
		{fixtures{at(2, 1, "par", 1, 6), at(1, 1, "spot", 1, 1)}, api.ErrOverlap}, {fixtures{at(2, 1, "par", 1, 7), at(1, 1, "spot", 1, 1)}, api.OK},
		{fixtures{at(1, 1, "spot", 1, 10), at(2, 1, "spot", 1, 5)}, api.ErrOverlap}, {fixtures{at(1, 1, "spot", 1, 10), at(2, 1, "spot", 1, 4)}, api.OK},
		{fixtures{at(1, 1, "head", 1, 10), at(2, 1, "par", 1, 15)}, api.ErrOverlap}, {fixtures{at(1, 1, "par", 1, 15), at(2, 1, "head", 1, 10)}, api.ErrOverlap},
		{fixtures{at(1, 1, "par", 1, 15), at(2, 1, "par", 1, 15)}, api.ErrOverlap}, {fixtures{at(1, 1, "par", 1, 15), at(2, 1, "par", 2, 15)}, api.OK},
		{fixtures{at(1, 1, "head", 1, 503), at(2, 1, "head", 2, 1)}, api.OK}, {fixtures{at(1, 1, "full", 1, 1), at(2, 1, "par", 1, 512)}, api.ErrOverlap},
		{fixtures{at(1, 1, "par", 1, 15), at(1, 1, "par", 1, 16)}, api.ErrTwice}, {fixtures{at(1, 1, "par", 1, 15), at(1, 1, "par", 1, 15)}, api.ErrTwice},
		{fixtures{at(1, 2, "par", 1, 1), at(2, 1, "par", 1, 2), at(1, 2, "par", 1, 3)}, api.ErrTwice}, {fixtures{at(1, 2, "par", 1, 1), at(2, 1, "par", 1, 2)}, api.OK},
		// The first fixture with an error counts, not the first kind of error.
		{fixtures{at(1, 1, "par", 1, 1), at(2, 1, "par", 1, 1), at(0, 1, "par", 1, 5)}, api.ErrOverlap},
		{fixtures{at(1, 1, "par", 1, 1), at(1, 1, "par", 1, 5), at(0, 1, "par", 1, 6)}, api.ErrTwice},
		{fixtures{at(1, 1, "par", 1, 1), at(0, 1, "par", 1, 5), at(1, 1, "par", 1, 1)}, api.ErrRange},
	} {
		if e := patch.Check(test.l, types()); e != test.want {
			t.Errorf("Check(%v): got %d, want %d", test.l, e, test.want)
		}
	}
	if e := patch.Check(many(api.MaxFixtures+1), types()); e != api.ErrMany {
		t.Errorf("Check of too many fixtures: got %d", e)
	}
	for _, p := range []profiles{make(profiles, api.MaxProfiles+1), append(types(), make(profiles, 1<<10)...)} {
		if e := patch.Check(stage(), p); e != api.ErrMany {
			t.Errorf("Check with too many profiles: got %d", e)
		}
		if e := patch.Check(nil, p); e != api.ErrMany {
			t.Errorf("Check of nothing with too many profiles: got %d", e)
		}
	}
	if e := patch.Check(stage(), nil); e != api.ErrNone {
		t.Errorf("Check without profiles: got %d", e)
	}
	twice := profiles{{Name: "par", Footprint: 0}, {Name: "par", Footprint: 1}}
	if e := patch.Check(fixtures{at(1, 1, "par", 1, 1)}, twice); e != api.ErrRange {
		t.Errorf("Check with two profiles of one name: got %d", e)
	}
}

func TestFind(t *testing.T) {
	l := stage()
	for _, test := range []struct {
		channel int
		want    fixtures
	}{
		{4, fixtures{l[1], l[0]}}, {9, fixtures{l[3], l[5], l[4]}}, {999, fixtures{l[2]}}, {1, nil}, {0, nil}, {1000, nil}, {-4, nil}, {4 + 1<<32, nil}, {math.MinInt, nil}, {math.MaxInt, nil},
	} {
		if got, e := patch.Find(l, types(), test.channel); !slices.Equal(got, test.want) || e != api.OK {
			t.Errorf("Find(%d): got %v, %d, want %v", test.channel, got, e, test.want)
		}
	}
}

func TestAt(t *testing.T) {
	type use struct {
		universe, address, index, offset int
		used                             bool
	}
	tests := []use{
		{1, 1, 1, 0, true}, {1, 6, 1, 5, true}, {1, 7, 0, 0, true}, {1, 8, 0, 0, false}, {1, 99, 0, 0, false}, {1, 100, 3, 0, true}, {1, 109, 3, 9, true}, {1, 110, 4, 0, true}, {1, 111, 4, 1, true},
		{1, 112, 0, 0, false}, {1, 512, 0, 0, false}, {2, 1, 0, 0, false}, {3, 1, 5, 0, true}, {3, 3, 5, 2, true}, {3, 4, 0, 0, false}, {8, 502, 0, 0, false}, {8, 503, 2, 0, true}, {8, 512, 2, 9, true},
	}
	for _, n := range outside(api.MaxUniverses) {
		tests = append(tests, use{n, 1, 0, 0, false}, use{n, 0, 0, 0, false})
	}
	for _, n := range outside(api.MaxSlots) {
		tests = append(tests, use{1, n, 0, 0, false}, use{8, n, 0, 0, false})
	}
	for _, test := range tests {
		i, offset, used, e := patch.At(stage(), types(), test.universe, test.address)
		if got := (use{test.universe, test.address, i, offset, used}); got != test || e != api.OK {
			t.Errorf("At(%d, %d): got %v, %d, want %v", test.universe, test.address, got, e, test)
		}
	}
}

func TestAttrs(t *testing.T) {
	for channel, want := range map[int][]int{
		4: {api.AttrIntensity, api.AttrPan}, 9: {-5, api.AttrPan, api.AttrTilt, api.AttrZoom, api.Attrs, 1 << 40}, 999: {api.AttrPan, api.AttrTilt, api.AttrZoom},
		1: nil, 0: nil, 1000: nil, -9: nil, math.MinInt: nil, math.MaxInt: nil,
	} {
		if got, e := patch.Attrs(stage(), types(), channel); !slices.Equal(got, want) || e != api.OK {
			t.Errorf("Attrs(%d): got %v, %d, want %v", channel, got, e, want)
		}
	}
	if got, e := patch.Attrs(fixtures{at(1, 1, "", 1, 1)}, types(), 1); len(got) != 0 || e != api.OK {
		t.Errorf("Attrs of a profile without features: got %v, %d", got, e)
	}
}

func TestFirst(t *testing.T) {
	l := stage()
	for _, test := range []struct {
		channel, attr int
		x             api.Fixture
		f             api.Feature
		found         bool
	}{
		{4, api.AttrIntensity, l[1], feature(api.AttrIntensity), true}, {4, api.AttrPan, l[1], feature(api.AttrPan), true}, {4, api.AttrTilt, api.Fixture{}, api.Feature{}, false},
		{9, api.AttrTilt, l[3], feature(api.AttrTilt), true}, {9, api.AttrZoom, l[3], zoom(), true}, {999, api.AttrPan, l[2], feature(api.AttrPan), true},
		{9, -5, l[5], feature(-5), true}, {9, api.Attrs, l[5], feature(api.Attrs), true}, {9, 1 << 40, l[5], feature(1 << 40), true}, {9, -4, api.Fixture{}, api.Feature{}, false},
		{4, -1, api.Fixture{}, api.Feature{}, false}, {4, api.Attrs, api.Fixture{}, api.Feature{}, false}, {1, api.AttrIntensity, api.Fixture{}, api.Feature{}, false},
		{0, 0, api.Fixture{}, api.Feature{}, false}, {1000, 0, api.Fixture{}, api.Feature{}, false}, {math.MinInt, math.MaxInt, api.Fixture{}, api.Feature{}, false},
	} {
		x, f, found, e := patch.First(l, types(), api.Param{Channel: test.channel, Attr: test.attr})
		if x != test.x || !reflect.DeepEqual(f, test.f) || found != test.found || e != api.OK {
			t.Errorf("First(%d, %d): got %v, %v, %v, %d, want %v, %v, %v", test.channel, test.attr, x, f, found, e, test.x, test.f, test.found)
		}
	}
	// The order is that of the parts, wherever the fixtures are in the list.
	parts := fixtures{at(7, 3, "par", 1, 1), at(7, 64, "spot", 1, 10), at(7, 2, "spot", 1, 20), at(7, 1, "head", 1, 30)}
	for attr, want := range map[int]api.Fixture{api.AttrIntensity: parts[2], api.AttrPan: parts[3]} {
		if x, f, found, e := patch.First(parts, types(), api.Param{Channel: 7, Attr: attr}); x != want || f.Attr != attr || !found || e != api.OK {
			t.Errorf("First of %v: got %v, %v, %v, %d, want %v", parts, x, f, found, e, want)
		}
	}
}

func TestFree(t *testing.T) {
	type room struct{ universe, size, want int }
	for _, test := range []room{
		{1, 1, 8}, {1, 5, 8}, {1, 92, 8}, {1, 93, 112}, {1, 401, 112}, {1, 402, 0}, {1, 505, 0}, {1, 512, 0}, {2, 1, 1}, {2, 512, 1}, {3, 1, 4}, {3, 509, 4}, {3, 510, 0}, {8, 1, 1}, {8, 502, 1}, {8, 503, 0}, {8, 512, 0},
	} {
		want := api.OK
		if test.want == 0 {
			want = api.ErrEmpty
		}
		if got, e := patch.Free(stage(), types(), test.universe, test.size); got != test.want || e != want {
			t.Errorf("Free(%d, %d): got %d, %d, want %d, %d", test.universe, test.size, got, e, test.want, want)
		}
	}
	both := stage()[:2] // those of the document's example
	for size, want := range map[int]int{1: 8, 5: 8, 505: 8, 506: 0} {
		if got, e := patch.Free(both, types(), 1, size); got != want || (e == api.ErrEmpty) != (want == 0) {
			t.Errorf("Free(1, %d): got %d, %d, want %d", size, got, e, want)
		}
	}
	for _, n := range outside(api.MaxUniverses) {
		for _, size := range []int{1, 512, 513} {
			if got, e := patch.Free(stage(), types(), n, size); got != 0 || e != api.ErrRange {
				t.Errorf("Free(%d, %d): got %d, %d", n, size, got, e)
			}
		}
	}
	for _, n := range outside(api.MaxSlots) {
		if got, e := patch.Free(stage(), types(), 1, n); got != 0 || e != api.ErrRange {
			t.Errorf("Free(1, %d): got %d, %d", n, got, e)
		}
	}
	if got, e := patch.Free(fixtures{at(1, 1, "full", 1, 1)}, types(), 1, 1); got != 0 || e != api.ErrEmpty {
		t.Errorf("Free of a full universe: got %d, %d", got, e)
	}
}

func TestUsed(t *testing.T) {
	for universe, want := range map[int]int{1: 19, 2: 0, 3: 3, 4: 0, 8: 10} {
		if got, e := patch.Used(stage(), types(), universe); got != want || e != api.OK {
			t.Errorf("Used(%d): got %d, %d, want %d", universe, got, e, want)
		}
	}
	for _, n := range outside(api.MaxUniverses) {
		if got, e := patch.Used(stage(), types(), n); got != 0 || e != api.OK {
			t.Errorf("Used(%d): got %d, %d", n, got, e)
		}
	}
	if got, e := patch.Used(stage()[:2], types(), 1); got != 7 || e != api.OK {
		t.Errorf("Used of the example: got %d, %d", got, e)
	}
	if got, e := patch.Used(fixtures{at(1, 1, "full", 8, 1)}, types(), 8); got != api.MaxSlots || e != api.OK {
		t.Errorf("Used of a full universe: got %d, %d", got, e)
	}
}
