package universe_test

import (
	"fmt"
	"math"
	"slices"
	"strconv"
	"strings"
	"testing"

	"luminaire/api"
	"luminaire/universe"
)

type (
	rig      = universe.Rig
	amounts  = []api.Amount
	frames   = []api.Frame
	fixtures = []api.Fixture
)

// straight returns the points of the straight curve, bent those of one that rises, and falling those of one that falls.
func straight() []api.Point { return []api.Point{{}, {X: api.MaxLevel, Y: api.MaxLevel}} }

func bent() []api.Point {
	return []api.Point{{}, {X: 20000, Y: 60000}, {X: api.MaxLevel, Y: api.MaxLevel}}
}

func falling() []api.Point { return []api.Point{{Y: api.MaxLevel}, {X: api.MaxLevel}} }

// types returns the profiles of most tests.
func types() []api.Profile {
	return []api.Profile{
		{Name: "par", Footprint: 1, Features: []api.Feature{{Bits: 8, Home: 257, High: 255}}},
		{Name: "spot", Footprint: 6, Watts: 500, Features: []api.Feature{
			{Bits: 16, Coarse: 3, Fine: 1, Curve: 1, High: api.MaxLevel},
			{Attr: api.AttrPan, Bits: 16, Coarse: 4, Fine: 5, Home: 32768, High: api.MaxLevel},
			{Attr: api.AttrGobo, Bits: 8, Coarse: 0, Curve: 2, Home: api.MaxLevel, Low: 10, High: 20, Snap: true, Wheel: []api.Slot{{Name: "open", To: 9}}},
		}},
		{Name: "box", Footprint: 3},
	}
}

// at returns a fixture with a phase, at an address.
func at(channel, part int, profile string, number, address int) api.Fixture {
	return api.Fixture{Channel: channel, Part: part, Profile: profile, Universe: number, Address: address, Phase: 1}
}

// stage returns the rig of most tests: a spot as the second part of channel 4, with a par as the first one, and others.
func stage() rig {
	return rig{
		Curves:   [][]api.Point{bent(), falling()},
		Profiles: types(),
		Fixtures: fixtures{at(4, 2, "spot", 5, 100), at(4, 1, "par", 2, 5), at(999, 64, "spot", 2, 507), at(7, 1, "box", 8, 510)},
	}
}

func intensity(channel int) api.Param { return api.Param{Channel: channel} }

func pan(channel int) api.Param { return api.Param{Channel: channel, Attr: api.AttrPan} }

func gobo(channel int) api.Param { return api.Param{Channel: channel, Attr: api.AttrGobo} }

// byteAt is the byte of a slot.
type byteAt struct{ address, value int }

// frame returns a frame whose slots are 0, but for some bytes.
func frame(number int, bytes ...byteAt) api.Frame {
	slots := make([]byte, api.MaxSlots)
	for _, b := range bytes {
		slots[b.address-1] = byte(b.value)
	}
	return api.Frame{Universe: number, Slots: string(slots)}
}

// set returns a copy of frames in which one slot has another byte.
func set(l frames, number, address, value int) frames {
	l = slices.Clone(l)
	for i, f := range l {
		if f.Universe == number {
			l[i].Slots = f.Slots[:address-1] + string([]byte{byte(value)}) + f.Slots[address:]
		}
	}
	return l
}

// text returns the slots of frames that are not 0.
func text(l frames) string {
	var s strings.Builder
	for _, f := range l {
		fmt.Fprintf(&s, "(%d of %d slots:", f.Universe, len(f.Slots))
		for i := range len(f.Slots) {
			if f.Slots[i] != 0 {
				fmt.Fprintf(&s, " %d=%d", i+1, f.Slots[i])
			}
		}
		s.WriteString(")")
	}
	return s.String()
}

// home returns the frames of the rig of most tests without amounts.
func home() frames {
	return frames{
		frame(2, byteAt{5, 1}, byteAt{507, 10}, byteAt{511, 128}),
		frame(5, byteAt{100, 10}, byteAt{104, 128}),
		frame(8),
	}
}

// outside returns ints that are not from 1 to a limit.
func outside(limit int) []int {
	return []int{0, -1, limit + 1, limit + 1<<32, 1 - 1<<32, math.MinInt, math.MaxInt}
}

func TestRightRigs(t *testing.T) {
	for name, g := range map[string]rig{
		"nothing": {}, "empty lists": {Curves: [][]api.Point{}, Profiles: []api.Profile{}, Fixtures: fixtures{}}, "all": stage(),
		"curves alone": {Curves: [][]api.Point{straight(), straight()}}, "profiles alone": {Profiles: types()[:1]}, "as many as possible": most(),
	} {
		if e := universe.Check(g); e != api.OK {
			t.Errorf("Check, %s: got %d", name, e)
		}
	}
}

// most returns a rig with as many curves, profiles and fixtures as possible, of as many universes as possible.
func most() rig {
	var g rig
	for i := range api.MaxCurves {
		g.Curves = append(g.Curves, []api.Point{{}, {X: i + 1}, {X: api.MaxLevel, Y: api.MaxLevel}})
	}
	for i := range api.MaxProfiles {
		g.Profiles = append(g.Profiles, api.Profile{Name: "p" + strings.Repeat("x", i%20) + string(rune('a'+i/20)), Footprint: 1 + i*16, Features: []api.Feature{{Bits: 8, Coarse: i * 16, Curve: 1 + i%16, High: 255}}})
	}
	for i := range api.MaxFixtures {
		g.Fixtures = append(g.Fixtures, at(1+i/8, 1+i%8, "pa", 1+i%8, 1+i/8))
	}
	return g
}

// fault makes a right rig wrong in one way.
type fault struct {
	name   string
	want   api.Errno
	change func(g *rig)
}

// faults returns one fault or more of each kind, in the order in which the document lists the errors.
func faults() [][]fault {
	return [][]fault{
		{{"many curves", api.ErrMany, func(g *rig) { g.Curves = append(g.Curves, make([][]api.Point, api.MaxCurves-1)...) }}},
		{{"a curve without points", api.ErrShape, func(g *rig) { g.Curves[0] = nil }}, {"a curve with many points", api.ErrMany, func(g *rig) { g.Curves[0] = make([]api.Point, api.MaxPoints+1) }}},
		{{"a later curve", api.ErrOrder, func(g *rig) { g.Curves[1] = []api.Point{{}, {}} }}},
		{{"many profiles", api.ErrMany, func(g *rig) { g.Profiles = append(g.Profiles, make([]api.Profile, api.MaxProfiles-2)...) }}},
		{{"a footprint", api.ErrRange, func(g *rig) { g.Profiles[0].Footprint = 0 }}, {"no name", api.ErrName, func(g *rig) { g.Profiles[0].Name = "" }}},
		{{"a feature of a later profile", api.ErrNone, func(g *rig) { g.Profiles[1].Features[0].Curve = 3 }}},
		{{"two profiles with one name", api.ErrTwice, func(g *rig) { g.Profiles[1].Name = g.Profiles[0].Name }}},
		{{"the last profile", api.ErrName, func(g *rig) { g.Profiles[2].Name = "Box" }}},
		{{"many fixtures", api.ErrMany, func(g *rig) { g.Fixtures = append(g.Fixtures, make(fixtures, api.MaxFixtures-3)...) }}},
		{{"a channel", api.ErrRange, func(g *rig) { g.Fixtures[0].Channel = 0 }}, {"a cable", api.ErrName, func(g *rig) { g.Fixtures[0].Cable = "?" }}},
		{{"no profile", api.ErrNone, func(g *rig) { g.Fixtures[1].Profile = "laser" }}},
		{{"the last slots", api.ErrRange, func(g *rig) { g.Fixtures[2].Address = 508 }}},
		{{"a part twice", api.ErrTwice, func(g *rig) { g.Fixtures[3].Channel, g.Fixtures[3].Part = 4, 2 }}, {"a slot twice", api.ErrOverlap, func(g *rig) { g.Fixtures[3].Universe = 2 }}},
	}
}

// TestOrderOfErrors makes rigs wrong in one way, and in two ways at once, of which the first one is reported.
func TestOrderOfErrors(t *testing.T) {
	all := faults()
	for i, first := range all {
		for _, a := range first {
			checkFaults(t, a.want, a)
			for _, later := range all[i+1:] {
				for _, b := range later {
					checkFaults(t, a.want, a, b)
				}
			}
		}
	}
}

// checkFaults checks that all functions return the error of a rig with some faults, before any other, and nothing beside it.
func checkFaults(t *testing.T, want api.Errno, faults ...fault) {
	t.Helper()
	g, names := stage(), ""
	for _, f := range faults {
		f.change(&g)
		names += ", " + f.name
	}
	if e := universe.Check(g); e != want {
		t.Errorf("Check%s: got %d, want %d", names, e, want)
	}
	for _, l := range []amounts{nil, {{Param: intensity(4), Level: "5"}}, {{}}, make(amounts, api.MaxEvents+1)} {
		if got, e := universe.Frames(g, l); len(got) != 0 || e != want {
			t.Errorf("Frames%s: got %v, %d, want %d", names, got, e, want)
		}
	}
	for _, l := range []frames{home(), nil, {{}}, make(frames, api.MaxUniverses+1)} {
		for _, p := range []api.Param{intensity(4), pan(4), {}, {Channel: 1}} {
			if raw, e := universe.Raw(g, l, p); raw != 0 || e != want {
				t.Errorf("Raw%s: got %d, %d, want %d", names, raw, e, want)
			}
		}
		if got, e := universe.Outside(g, l); len(got) != 0 || e != want {
			t.Errorf("Outside%s: got %v, %d, want %d", names, got, e, want)
		}
	}
}

func TestFirstWrongProfile(t *testing.T) {
	for name, test := range map[string]struct {
		change func(p []api.Profile)
		want   api.Errno
	}{
		"nothing":                     {func([]api.Profile) {}, api.OK},
		"the first and the last name": {func(p []api.Profile) { p[2].Name = "par" }, api.ErrTwice},
		"the last two names":          {func(p []api.Profile) { p[1].Name = "box" }, api.ErrTwice},
		"its own error first":         {func(p []api.Profile) { p[1].Name, p[1].Footprint = "par", 0 }, api.ErrRange},
		"a name before an error":      {func(p []api.Profile) { p[1].Name, p[2].Footprint = "par", 0 }, api.ErrTwice},
		"an error before a name":      {func(p []api.Profile) { p[2].Name, p[1].Watts = "par", -1 }, api.ErrRange},
		"two wrong names":             {func(p []api.Profile) { p[0].Name, p[1].Name = "?", "?" }, api.ErrName},
	} {
		g := rig{Curves: stage().Curves, Profiles: types()}
		test.change(g.Profiles)
		if e := universe.Check(g); e != test.want {
			t.Errorf("Check, %s: got %d, want %d", name, e, test.want)
		}
	}
	g := most()
	g.Profiles = append(g.Profiles, api.Profile{Name: "more", Footprint: 1})
	if e := universe.Check(g); e != api.ErrMany {
		t.Errorf("Check of one profile too many: got %d", e)
	}
	g = most()
	g.Curves = append(g.Curves, straight())
	if e := universe.Check(g); e != api.ErrMany {
		t.Errorf("Check of one curve too many: got %d", e)
	}
	g = most()
	g.Fixtures = append(g.Fixtures, at(99, 1, "pa", 1, 500))
	if e := universe.Check(g); e != api.ErrMany {
		t.Errorf("Check of one fixture too many: got %d", e)
	}
}

func TestExamples(t *testing.T) {
	g := rig{
		Profiles: []api.Profile{
			{Name: "dimmer", Footprint: 1, Features: []api.Feature{{Bits: 8, Home: 2570, High: 255}}},
			{Name: "yoke", Footprint: 2, Features: []api.Feature{{Attr: api.AttrPan, Bits: 16, Fine: 1, High: api.MaxLevel}}},
		},
		Fixtures: fixtures{at(1, 1, "dimmer", 2, 5), at(2, 1, "yoke", 2, 10)},
	}
	for _, test := range []struct {
		l    amounts
		want frames
	}{
		{amounts{{Param: intensity(1), Level: "32768"}}, frames{frame(2, byteAt{5, 128})}},
		{amounts{{Param: intensity(1), Level: "65535"}}, frames{frame(2, byteAt{5, 255})}},
		{nil, frames{frame(2, byteAt{5, 10})}},
		{amounts{{Param: intensity(1), Level: "0"}, {Param: pan(2), Level: "32768"}}, frames{frame(2, byteAt{10, 128}, byteAt{11, 0})}},
	} {
		if got, e := universe.Frames(g, test.l); !slices.Equal(got, test.want) || e != api.OK {
			t.Errorf("Frames for %v: got %s, %d", test.l, text(got), e)
		}
	}
}

func TestFrames(t *testing.T) {
	for _, test := range []struct {
		l    amounts
		want frames
	}{
		{nil, home()}, {amounts{}, home()},
		{amounts{{Param: intensity(4), Level: "10000"}}, set(set(set(home(), 2, 5, 39), 5, 103, 30000/256), 5, 101, 30000%256)}, // both parts of the channel
		{amounts{{Param: intensity(4), Level: "1/3"}}, set(set(home(), 2, 5, 0), 5, 101, 1)},
		{amounts{{Param: pan(4), Level: "258"}}, set(set(home(), 5, 104, 1), 5, 105, 2)},
		{amounts{{Param: pan(4), Level: "515/2"}}, set(set(home(), 5, 104, 1), 5, 105, 2)},
		{amounts{{Param: gobo(999), Level: "0"}}, set(home(), 2, 507, 20)},
		{amounts{{Param: gobo(4), Level: "65535/2"}, {Param: gobo(999), Level: "0"}}, set(set(home(), 2, 507, 20), 5, 100, 15)},
		{amounts{{Param: pan(999), Level: "65535"}}, set(set(home(), 2, 511, 255), 2, 512, 255)},
		// What no fixture has does not matter.
		{amounts{{Param: intensity(1), Level: "5"}, {Param: intensity(3), Level: "1/7"}, {Param: intensity(7), Level: "65535"}, {Param: api.Param{Channel: 999, Attr: api.AttrFocus}, Level: "9"}}, home()},
	} {
		if got, e := universe.Frames(stage(), test.l); !slices.Equal(got, test.want) || e != api.OK {
			t.Errorf("Frames for %v: got %s, %d, want %s", test.l, text(got), e, text(test.want))
		}
	}
	if got, e := universe.Frames(rig{}, amounts{{Param: intensity(1), Level: "5"}}); len(got) != 0 || e != api.OK {
		t.Errorf("Frames of nothing: got %v, %d", got, e)
	}
	if got, e := universe.Frames(most(), nil); len(got) != api.MaxUniverses || e != api.OK || universe.Right(got) != api.OK {
		t.Errorf("Frames of a rig with as much as possible: got %s, %d", text(got), e)
	}
}

// many returns amounts of some parameters, from channel 1 on.
func many(n int) amounts {
	l := make(amounts, n)
	for i := range l {
		l[i] = api.Amount{Param: api.Param{Channel: 1 + i/api.Attrs, Attr: i % api.Attrs}, Level: "65535"}
	}
	return l
}

func TestAmounts(t *testing.T) {
	digits := strings.Repeat("7", api.MaxLong-1)
	longest := api.Rat("1" + digits + "/8" + digits)
	for _, test := range []struct {
		l    amounts
		want api.Errno
	}{
		{many(api.MaxEvents), api.OK}, {many(api.MaxEvents + 1), api.ErrMany}, {make(amounts, api.MaxEvents+1), api.ErrMany}, {make(amounts, api.MaxEvents), api.ErrRange},
		{amounts{{Param: api.Param{Channel: 1}, Level: "0"}, {Param: api.Param{Channel: 999, Attr: 14}, Level: "65535"}}, api.OK},
		{amounts{{Param: intensity(4), Level: "131069/2"}}, api.OK}, {amounts{{Param: intensity(4), Level: "131071/2"}}, api.ErrRange}, {amounts{{Param: intensity(4), Level: "65536"}}, api.ErrRange},
		{amounts{{Param: intensity(4), Level: "-1"}}, api.ErrRange}, {amounts{{Param: intensity(4), Level: "-1/65535"}}, api.ErrRange}, {amounts{{Param: intensity(9), Level: api.Rat(digits)}}, api.ErrRange},
		{amounts{{Param: intensity(4), Level: ""}}, api.ErrForm}, {amounts{{Param: intensity(4), Level: "2/4"}}, api.ErrForm}, {amounts{{Param: intensity(4), Level: "05"}}, api.ErrForm}, {amounts{{Param: intensity(9), Level: "-0"}}, api.ErrForm},
		{amounts{{Param: intensity(4), Level: longest}}, api.OK}, {amounts{{Param: intensity(4), Level: longest + "1"}}, api.ErrLarge}, {amounts{{Param: intensity(4), Level: "-1" + longest}}, api.ErrLarge},
		{amounts{{Param: pan(4), Level: "0"}, {Param: intensity(4), Level: "0"}}, api.ErrOrder}, {amounts{{Param: pan(4), Level: "0"}, {Param: pan(4), Level: "0"}}, api.ErrOrder}, {amounts{{Param: intensity(5), Level: "0"}, {Param: pan(4), Level: "0"}}, api.ErrOrder},
		{amounts{{Param: pan(4), Level: "0"}, {Param: intensity(5), Level: "0"}}, api.OK}, {amounts{{Param: intensity(4), Level: "0"}, {Param: intensity(5), Level: "0"}, {Param: pan(4), Level: "0"}}, api.ErrOrder},
		// The first amount with an error counts, and of its errors the first one.
		{amounts{{Param: intensity(4), Level: "x"}, {Param: intensity(0), Level: "0"}}, api.ErrForm}, {amounts{{Param: intensity(0), Level: "x"}, {Param: intensity(4), Level: "x"}}, api.ErrRange},
		{amounts{{Param: pan(4), Level: "0"}, {Param: intensity(4), Level: "x"}}, api.ErrForm}, {amounts{{Param: pan(4), Level: "0"}, {Param: intensity(4), Level: "65536"}}, api.ErrRange},
		{amounts{{Param: pan(4), Level: "0"}, {Param: intensity(4), Level: "0"}, {Param: intensity(4), Level: "x"}}, api.ErrOrder},
	} {
		for _, g := range []rig{stage(), {}} {
			got, e := universe.Frames(g, test.l)
			if e != test.want || e != api.OK && len(got) != 0 || e == api.OK && len(got) != min(3, len(g.Fixtures)) {
				t.Errorf("Frames for %.300v: got %s, %d, want %d", test.l, text(got), e, test.want)
			}
		}
	}
	for _, n := range outside(api.MaxChannel) {
		checkParam(t, api.Param{Channel: n})
	}
	for _, n := range outside(api.Attrs - 1)[1:] {
		checkParam(t, api.Param{Channel: 4, Attr: n})
	}
}

// checkParam checks that Frames and Raw do not permit a parameter.
func checkParam(t *testing.T, p api.Param) {
	t.Helper()
	for _, v := range []api.Rat{"0", "x", "65536"} {
		if got, e := universe.Frames(stage(), amounts{{Param: p, Level: v}}); len(got) != 0 || e != api.ErrRange {
			t.Errorf("Frames for %v: got %s, %d", p, text(got), e)
		}
	}
	if raw, e := universe.Raw(stage(), home(), p); raw != 0 || e != api.ErrRange {
		t.Errorf("Raw of %v: got %d, %d", p, raw, e)
	}
}

// wrong is a list of frames with its error.
type wrong struct {
	l    frames
	want api.Errno
}

// wrongFrames returns lists of frames with errors.
func wrongFrames() map[string]wrong {
	f := frame(3)
	short := api.Frame{Universe: 3, Slots: f.Slots[1:]}
	lists := map[string]wrong{
		"too many": {make(frames, api.MaxUniverses+1), api.ErrMany}, "too many that are right": {append(all(), frame(9)), api.ErrMany},
		"one slot less": {frames{short}, api.ErrShape}, "one slot more": {frames{{Universe: 3, Slots: f.Slots + "\x00"}}, api.ErrShape}, "no slots": {frames{{Universe: 3}}, api.ErrShape},
		"runes of two bytes": {frames{{Universe: 3, Slots: strings.Repeat("\u00e9", api.MaxSlots)}}, api.ErrShape},
		"twice":              {frames{f, f}, api.ErrOrder}, "not in order": {frames{f, frame(4), frame(2)}, api.ErrOrder},
		"a universe and slots": {frames{{Universe: 0, Slots: "x"}}, api.ErrRange}, "slots and order": {frames{f, short}, api.ErrShape}, "a universe and order": {frames{f, {Universe: -3, Slots: f.Slots}}, api.ErrRange},
		"slots before a universe": {frames{short, {Universe: 9}}, api.ErrShape}, "order before a universe": {frames{f, frame(2), {Universe: 9}}, api.ErrOrder},
	}
	for _, n := range outside(api.MaxUniverses) {
		lists["universe "+strconv.Itoa(n)] = wrong{frames{{Universe: n, Slots: f.Slots}}, api.ErrRange}
	}
	return lists
}

// all returns frames of all universes.
func all() frames {
	var l frames
	for i := range api.MaxUniverses {
		l = append(l, frame(i+1, byteAt{i + 1, 1}))
	}
	return l
}

func TestRight(t *testing.T) {
	for name, l := range map[string]frames{"none": nil, "empty": {}, "the first": {frame(1)}, "the last": {frame(8)}, "all": all(), "some": home(), "any bytes": {{Universe: 4, Slots: strings.Repeat("\xff\u00e9a", api.MaxSlots/4)}}} {
		if e := universe.Right(l); e != api.OK {
			t.Errorf("Right, %s: got %d", name, e)
		}
	}
	for name, test := range wrongFrames() {
		if e := universe.Right(test.l); e != test.want {
			t.Errorf("Right, %s: got %d, want %d", name, e, test.want)
		}
	}
}

// TestWrongFrames checks that all functions with frames return their error, before those of other arguments, and nothing beside it.
func TestWrongFrames(t *testing.T) {
	for name, test := range wrongFrames() {
		for _, n := range []int{0, 1, 3, 1000} {
			if b, e := universe.Slot(test.l, n, n); b != 0 || e != test.want {
				t.Errorf("Slot, %s: got %d, %d, want %d", name, b, e, test.want)
			}
			if raw, e := universe.Raw(stage(), test.l, intensity(n)); raw != 0 || e != test.want {
				t.Errorf("Raw, %s: got %d, %d, want %d", name, raw, e, test.want)
			}
		}
		for _, l := range [][]universe.Change{nil, {{3, 1, 1}}, {{}}, make([]universe.Change, 1<<13)} {
			if got, e := universe.Apply(test.l, l); len(got) != 0 || e != test.want {
				t.Errorf("Apply, %s: got %s, %d, want %d", name, text(got), e, test.want)
			}
		}
		for _, l := range []frames{nil, {frame(3)}, all()} {
			if got, e := universe.Changes(test.l, l); len(got) != 0 || e != test.want {
				t.Errorf("Changes, %s first: got %v, %d, want %d", name, got, e, test.want)
			}
			if got, e := universe.Changes(l, test.l); len(got) != 0 || e != test.want {
				t.Errorf("Changes, %s last: got %v, %d, want %d", name, got, e, test.want)
			}
		}
		if got, e := universe.Outside(stage(), test.l); len(got) != 0 || e != test.want {
			t.Errorf("Outside, %s: got %v, %d, want %d", name, got, e, test.want)
		}
		// The error of the first frames is the first one.
		if _, e := universe.Changes(frames{{Universe: 3}}, test.l); e != api.ErrShape {
			t.Errorf("Changes of wrong slots and %s: got %d", name, e)
		}
		if _, e := universe.Changes(test.l, frames{{Universe: 3}}); e != test.want {
			t.Errorf("Changes of %s and wrong slots: got %d", name, e)
		}
	}
}

func TestSlot(t *testing.T) {
	for _, test := range []struct {
		number, address, want int
		e                     api.Errno
	}{
		{2, 5, 1, api.OK}, {2, 4, 0, api.OK}, {2, 1, 0, api.OK}, {2, 512, 0, api.OK}, {2, 507, 10, api.OK}, {2, 511, 128, api.OK}, {5, 104, 128, api.OK}, {8, 5, 0, api.OK}, {8, 512, 0, api.OK},
		{1, 5, 0, api.ErrNone}, {7, 5, 0, api.ErrNone}, {0, 5, 0, api.ErrNone}, {9, 1, 0, api.ErrNone}, {-2, 512, 0, api.ErrNone}, {2 + 1<<32, 5, 0, api.ErrNone}, {math.MinInt, 1, 0, api.ErrNone}, {math.MaxInt, 1, 0, api.ErrNone},
	} {
		if got, e := universe.Slot(home(), test.number, test.address); got != test.want || e != test.e {
			t.Errorf("Slot(%d, %d): got %d, %d, want %d, %d", test.number, test.address, got, e, test.want, test.e)
		}
	}
	for _, n := range outside(api.MaxSlots) {
		for _, number := range []int{2, 1, 0, 9} {
			if got, e := universe.Slot(home(), number, n); got != 0 || e != api.ErrRange {
				t.Errorf("Slot(%d, %d): got %d, %d", number, n, got, e)
			}
		}
	}
	full := frames{frame(1, byteAt{1, 255}, byteAt{512, 254})}
	for address, want := range map[int]int{1: 255, 512: 254} {
		if got, e := universe.Slot(full, 1, address); got != want || e != api.OK {
			t.Errorf("Slot(1, %d): got %d, %d", address, got, e)
		}
	}
	if got, e := universe.Slot(nil, 1, 1); got != 0 || e != api.ErrNone {
		t.Errorf("Slot of nothing: got %d, %d", got, e)
	}
}
