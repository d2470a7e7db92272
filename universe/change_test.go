package universe_test

import (
	"math"
	"slices"
	"testing"

	"luminaire/api"
	"luminaire/universe"
)

type changes = []universe.Change

func TestChanges(t *testing.T) {
	for _, test := range []struct {
		a, b frames
		want changes
	}{
		{nil, nil, nil}, {nil, frames{}, nil}, {home(), home(), nil},
		{home(), set(home(), 2, 5, 255), changes{{2, 5, 255}}}, {set(home(), 2, 5, 255), home(), changes{{2, 5, 1}}}, {home(), set(home(), 2, 507, 0), changes{{2, 507, 0}}},
		{home(), set(set(set(set(home(), 8, 512, 1), 8, 1, 2), 2, 512, 3), 2, 1, 4), changes{{2, 1, 4}, {2, 512, 3}, {8, 1, 2}, {8, 512, 1}}},
		{frames{frame(1, byteAt{1, 200}, byteAt{2, 128})}, frames{frame(1, byteAt{2, 127}, byteAt{3, 129})}, changes{{1, 1, 0}, {1, 2, 127}, {1, 3, 129}}},
	} {
		if got, e := universe.Changes(test.a, test.b); !slices.Equal(got, test.want) || e != api.OK {
			t.Errorf("Changes of %s and %s: got %v, %d, want %v", text(test.a), text(test.b), got, e, test.want)
		}
		if got, e := universe.Apply(test.a, test.want); !slices.Equal(got, test.b) || e != api.OK {
			t.Errorf("Apply to %s of %v: got %s, %d, want %s", text(test.a), test.want, text(got), e, text(test.b))
		}
	}
	for _, pair := range [][2]frames{{home(), nil}, {home(), home()[1:]}, {home(), home()[:2]}, {{frame(1)}, {frame(2)}}, {{frame(1), frame(3)}, {frame(1), frame(4)}}, {{frame(1), frame(3)}, {frame(2), frame(3)}}} {
		for _, l := range [][2]frames{pair, {pair[1], pair[0]}} {
			if got, e := universe.Changes(l[0], l[1]); len(got) != 0 || e != api.ErrShape {
				t.Errorf("Changes of %s and %s: got %v, %d", text(l[0]), text(l[1]), got, e)
			}
		}
	}
}

// every returns changes of all slots of all universes.
func every() changes {
	var l changes
	for i := range api.MaxUniverses {
		for j := range api.MaxSlots {
			l = append(l, universe.Change{Universe: i + 1, Address: j + 1, Byte: (i + j) % 256})
		}
	}
	return l
}

func TestApply(t *testing.T) {
	if got, e := universe.Apply(home(), changes{{2, 5, 1}, {2, 6, 0}, {5, 1, 255}, {8, 512, 0}}); !slices.Equal(got, set(home(), 5, 1, 255)) || e != api.OK {
		t.Errorf("Apply of some changes to the same bytes: got %s, %d", text(got), e)
	}
	l := every()
	got, e := universe.Apply(all(), l)
	if len(got) != api.MaxUniverses || universe.Right(got) != api.OK || e != api.OK {
		t.Errorf("Apply of all changes: got %s, %d", text(got), e)
	}
	for _, c := range l {
		if b, e := universe.Slot(got, c.Universe, c.Address); b != c.Byte || e != api.OK {
			t.Errorf("Slot(%d, %d) behind all changes: got %d, %d, want %d", c.Universe, c.Address, b, e, c.Byte)
		}
	}
}

func TestWrongChanges(t *testing.T) {
	right := universe.Change{Universe: 5, Address: 100, Byte: 7}
	type test struct {
		l    changes
		want api.Errno
	}
	tests := []test{
		{append(every(), universe.Change{Universe: 8, Address: 513}), api.ErrMany}, {make(changes, api.MaxUniverses*api.MaxSlots+1), api.ErrMany}, {make(changes, api.MaxUniverses*api.MaxSlots), api.ErrRange},
		{changes{{1, 1, 1}}, api.ErrNone}, {changes{{0, 1, 1}}, api.ErrNone}, {changes{{9, 1, 1}}, api.ErrNone}, {changes{{-2, 1, 1}}, api.ErrNone}, {changes{{2 + 1<<32, 1, 1}}, api.ErrNone}, {changes{right, {6, 1, 1}}, api.ErrNone},
		{changes{right, right}, api.ErrOrder}, {changes{right, {5, 100, 8}}, api.ErrOrder}, {changes{right, {5, 99, 8}}, api.ErrOrder}, {changes{right, {2, 101, 7}}, api.ErrOrder}, {changes{right, {8, 1, 1}, {5, 101, 1}}, api.ErrOrder},
		{changes{right, {5, 101, 0}, {8, 1, 0}}, api.OK},
		// The first change with an error counts, and of its errors the first one.
		{changes{{1, 0, 0}}, api.ErrRange}, {changes{{1, 1, 256}}, api.ErrRange}, {changes{right, {1, 1, 1}}, api.ErrNone}, {changes{right, {5, 99, -1}}, api.ErrRange}, {changes{right, {1, 513, 1}}, api.ErrRange},
		{changes{right, right, {5, 0, 0}}, api.ErrOrder}, {changes{{1, 1, 1}, {5, 0, 0}}, api.ErrNone}, {changes{{5, 0, 0}, {1, 1, 1}}, api.ErrRange}, {changes{right, {5, 99, 0}, {1, 1, 1}}, api.ErrOrder},
	}
	for _, n := range outside(api.MaxSlots) {
		tests = append(tests, test{changes{{5, n, 1}}, api.ErrRange}, test{changes{right, {8, n, 1}}, api.ErrRange})
	}
	for _, n := range []int{-1, 256, -256, 1 << 16, 1 << 32, math.MinInt, math.MaxInt} {
		tests = append(tests, test{changes{{5, 1, n}}, api.ErrRange}, test{changes{right, {8, 1, n}}, api.ErrRange})
	}
	for _, test := range tests {
		if got, e := universe.Apply(home(), test.l); (len(got) == 0) != (e != api.OK) || e != test.want {
			t.Errorf("Apply of %d changes %v: got %s, %d, want %d", len(test.l), test.l[:min(len(test.l), 3)], text(got), e, test.want)
		}
	}
	if got, e := universe.Apply(nil, changes{right}); len(got) != 0 || e != api.ErrNone {
		t.Errorf("Apply to nothing: got %s, %d", text(got), e)
	}
	if got, e := universe.Apply(nil, nil); len(got) != 0 || e != api.OK {
		t.Errorf("Apply of nothing to nothing: got %s, %d", text(got), e)
	}
}

func TestRaw(t *testing.T) {
	l := set(set(set(set(home(), 2, 5, 77), 5, 103, 1), 5, 101, 2), 5, 100, 255)
	for _, test := range []struct {
		p    api.Param
		want int
		e    api.Errno
	}{
		{intensity(4), 77, api.OK}, // that of the first part, and not 258
		{pan(4), 32768, api.OK}, {gobo(4), 255, api.OK}, {intensity(999), 0, api.OK}, {pan(999), 32768, api.OK}, {gobo(999), 10, api.OK},
		{api.Param{Channel: 4, Attr: api.AttrTilt}, 0, api.ErrNone}, {intensity(7), 0, api.ErrNone}, {intensity(1), 0, api.ErrNone}, {pan(998), 0, api.ErrNone},
		{intensity(0), 0, api.ErrRange}, {pan(1000), 0, api.ErrRange}, {api.Param{Channel: 4, Attr: api.Attrs}, 0, api.ErrRange}, {api.Param{Channel: 4, Attr: -1}, 0, api.ErrRange},
	} {
		if got, e := universe.Raw(stage(), l, test.p); got != test.want || e != test.e {
			t.Errorf("Raw of %v: got %d, %d, want %d, %d", test.p, got, e, test.want, test.e)
		}
	}
	// The universe of the first part counts alone.
	for _, test := range []struct {
		l    frames
		p    api.Param
		want int
		e    api.Errno
	}{
		{l[:1], intensity(4), 77, api.OK}, {l[:1], pan(4), 0, api.ErrNone}, {l[1:], intensity(4), 0, api.ErrNone}, {l[1:], pan(4), 32768, api.OK}, {all(), pan(4), 0, api.OK}, {nil, pan(4), 0, api.ErrNone}, {nil, intensity(1), 0, api.ErrNone},
		{nil, intensity(0), 0, api.ErrRange},
	} {
		if got, e := universe.Raw(stage(), test.l, test.p); got != test.want || e != test.e {
			t.Errorf("Raw in %s of %v: got %d, %d, want %d, %d", text(test.l), test.p, got, e, test.want, test.e)
		}
	}
}

// TestRawOfParts checks that the part with the least number counts, wherever it stands, if it has the attribute.
func TestRawOfParts(t *testing.T) {
	g := rig{Profiles: []api.Profile{{Name: "a", Footprint: 1, Features: []api.Feature{{Bits: 8, High: 255}}}, {Name: "b", Footprint: 2, Features: []api.Feature{{Attr: api.AttrPan, Bits: 8, Coarse: 1, High: 255}}}}}
	g.Fixtures = fixtures{at(1, 9, "a", 1, 9), at(1, 3, "a", 1, 3), at(1, 4, "a", 1, 4), at(1, 1, "b", 1, 1), at(1, 12, "b", 1, 12)}
	l := frames{frame(1, byteAt{2, 2}, byteAt{3, 3}, byteAt{4, 4}, byteAt{9, 9}, byteAt{13, 13})}
	for attr, want := range map[int]int{api.AttrIntensity: 3, api.AttrPan: 2} {
		if got, e := universe.Raw(g, l, api.Param{Channel: 1, Attr: attr}); got != want || e != api.OK {
			t.Errorf("Raw of the attribute %d: got %d, %d, want %d", attr, got, e, want)
		}
	}
}

// narrow returns a rig whose features may have the raw values from 10 to 20, and from 1000 to 2000.
func narrow() rig {
	g := stage()
	for _, p := range g.Profiles[:2] {
		for i := range p.Features {
			f := &p.Features[i]
			f.Low, f.High = 10, 20
			if f.Bits == 16 {
				f.Low, f.High = 1000, 2000
			}
		}
	}
	return g
}

func TestOutside(t *testing.T) {
	inside, _ := universe.Frames(narrow(), nil)
	for _, test := range []struct {
		l    frames
		want []api.Param
	}{
		{inside, nil},
		{set(inside, 2, 5, 10), nil}, {set(inside, 2, 5, 20), nil}, {set(inside, 2, 5, 9), []api.Param{intensity(4)}}, {set(inside, 2, 5, 21), []api.Param{intensity(4)}},
		{set(set(inside, 5, 104, 1000/256), 5, 105, 1000%256), nil}, {set(set(inside, 5, 104, 999/256), 5, 105, 999%256), []api.Param{pan(4)}},
		{set(set(inside, 5, 104, 2000/256), 5, 105, 2000%256), nil}, {set(set(inside, 5, 104, 2001/256), 5, 105, 2001%256), []api.Param{pan(4)}},
		{set(set(inside, 5, 103, 255), 2, 5, 0), []api.Param{intensity(4)}}, // both parts
		{set(inside, 5, 103, 255), []api.Param{intensity(4)}},               // the second part alone
		{set(set(set(inside, 2, 511, 255), 5, 100, 0), 2, 5, 0), []api.Param{intensity(4), gobo(4), pan(999)}},
		{set(set(set(inside, 1, 1, 255), 8, 510, 255), 2, 6, 255), nil}, // slots without a feature
		{frames{frame(2), frame(5), frame(8)}, []api.Param{intensity(4), pan(4), gobo(4), intensity(999), pan(999), gobo(999)}},
		{all(), []api.Param{intensity(4), pan(4), gobo(4), intensity(999), pan(999), gobo(999)}},
	} {
		if got, e := universe.Outside(narrow(), test.l); !slices.Equal(got, test.want) || e != api.OK {
			t.Errorf("Outside in %s: got %v, %d, want %v", text(test.l), got, e, test.want)
		}
	}
	// Channel 7 has no features, but its universe is needed too.
	for _, l := range []frames{nil, inside[1:], inside[:2], {inside[0], inside[2]}, {frame(1), frame(3)}} {
		if got, e := universe.Outside(narrow(), l); len(got) != 0 || e != api.ErrNone {
			t.Errorf("Outside in %s: got %v, %d", text(l), got, e)
		}
	}
	for _, l := range []frames{nil, home(), all()} {
		if got, e := universe.Outside(rig{}, l); len(got) != 0 || e != api.OK {
			t.Errorf("Outside of nothing in %s: got %v, %d", text(l), got, e)
		}
	}
}

func TestSame(t *testing.T) {
	short := frames{{Universe: 2, Slots: "ab"}}
	for _, test := range []struct {
		a, b frames
		want bool
	}{
		{nil, nil, true}, {nil, frames{}, true}, {home(), home(), true}, {short, short, true}, {frames{{}}, frames{{}}, true}, {make(frames, 20), make(frames, 20), true}, {frames{{Universe: -5}}, frames{{Universe: -5}}, true},
		{home(), nil, false}, {home(), home()[:2], false}, {home(), home()[1:], false}, {home(), append(home(), api.Frame{}), false}, {frames{{}}, nil, false}, {make(frames, 20), make(frames, 21), false},
		{home(), set(home(), 8, 512, 1), false}, {home(), set(home(), 2, 1, 1), false}, {short, frames{{Universe: 3, Slots: "ab"}}, false}, {short, frames{{Universe: 2, Slots: "abc"}}, false}, {short, frames{{Universe: 2, Slots: "a"}}, false}, {short, frames{{Universe: 2, Slots: "aB"}}, false},
		{frames{frame(1), frame(2)}, frames{frame(2), frame(1)}, false}, {frames{frame(1)}, frames{frame(2)}, false}, {frames{{Slots: "\x00"}}, frames{{}}, false},
	} {
		if got := universe.Same(test.a, test.b); got != test.want {
			t.Errorf("Same(%s, %s): got %v", text(test.a), text(test.b), got)
		}
		if got := universe.Same(test.b, test.a); got != test.want {
			t.Errorf("Same(%s, %s): got %v", text(test.b), text(test.a), got)
		}
	}
}
