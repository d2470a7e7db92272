package palette_test

import (
	"math"
	"slices"
	"testing"

	"luminaire/api"
	"luminaire/palette"
)

// wrongValues returns values with errors.
func wrongValues() []api.Value {
	l := []api.Value{{Palette: -1, Level: 1}, {Palette: -1, Level: -1}, {Palette: -1, Level: api.MaxLevel}, {Palette: 1, Level: 1}, {Palette: 5, Level: -1}, {Palette: api.MaxNumber, Level: api.MaxLevel}, {Palette: 1, Level: 1 << 32}, {Palette: -2, Level: -2}, {Palette: math.MinInt, Level: math.MinInt}}
	for _, n := range outside(-1, api.MaxNumber) {
		l = append(l, ref(n), api.Value{Palette: n, Level: 1})
	}
	for _, n := range outside(0, api.MaxLevel) {
		l = append(l, at(n))
	}
	return l
}

func TestValue(t *testing.T) {
	for _, v := range []api.Value{home(), at(0), at(1), at(api.MaxLevel), ref(1), ref(2), ref(api.MaxNumber)} {
		if e := palette.Value(v); e != api.OK {
			t.Errorf("Value(%v): got %d", v, e)
		}
	}
	for _, v := range wrongValues() {
		if e := palette.Value(v); e != api.ErrRange {
			t.Errorf("Value(%v): got %d", v, e)
		}
	}
}

// manyEntries returns entries of all attributes of the channels from 1 on.
func manyEntries(n int) entries {
	l := make(entries, n)
	for i := range l {
		l[i] = entry(1+i/api.Attrs, i%api.Attrs, ref(n-i))
	}
	return l
}

func TestRightEntries(t *testing.T) {
	for name, l := range map[string]entries{
		"none": nil, "empty": {}, "all values": {entry(1, 0, at(9)), entry(1, 1, home()), entry(1, 2, ref(9))}, "the same values": {entry(1, 1, at(9)), entry(2, 0, at(9)), entry(2, 1, at(9))},
		"first and last": {entry(1, 0, at(0)), entry(api.MaxChannel, api.Attrs-1, at(api.MaxLevel))}, "as many as possible": manyEntries(api.MaxEvents),
	} {
		if e := palette.Entries(l); e != api.OK {
			t.Errorf("Entries, %s: got %d", name, e)
		}
	}
}

// TestWrongEntries checks that all functions with entries return their error, and nothing beside it.
func TestWrongEntries(t *testing.T) {
	right, none := entry(5, 5, at(5)), entry(5, 6, at(-1))
	type test struct {
		l    entries
		want api.Errno
	}
	tests := []test{
		{manyEntries(api.MaxEvents + 1), api.ErrMany}, {make(entries, api.MaxEvents+1), api.ErrMany}, {make(entries, api.MaxEvents), api.ErrRange}, {slices.Repeat(entries{right}, api.MaxEvents), api.ErrOrder},
		{entries{right, right}, api.ErrOrder}, {entries{right, entry(5, 5, at(6))}, api.ErrOrder}, {entries{right, entry(5, 4, at(6))}, api.ErrOrder}, {entries{right, entry(4, 6, at(6))}, api.ErrOrder}, {entries{entry(1, 0, at(0)), right, entry(7, 0, at(0)), entry(6, 14, home())}, api.ErrOrder},
		// The first entry with an error counts, and of its errors the first one.
		{entries{right, right, none}, api.ErrOrder}, {entries{right, none, right}, api.ErrRange}, {entries{right, entry(4, 0, at(-1))}, api.ErrRange}, {entries{right, entry(0, 0, at(0))}, api.ErrRange}, {entries{right, entry(4, 15, at(0))}, api.ErrRange},
	}
	for _, v := range wrongValues() {
		tests = append(tests, test{entries{entry(1, 0, v)}, api.ErrRange}, test{entries{right, entry(6, 1, v)}, api.ErrRange})
	}
	for _, n := range outside(1, api.MaxChannel) {
		tests = append(tests, test{entries{entry(n, 1, at(1))}, api.ErrRange}, test{entries{right, entry(n, 1, at(1))}, api.ErrRange})
	}
	for _, n := range outside(0, api.Attrs-1) {
		tests = append(tests, test{entries{entry(1, n, at(1))}, api.ErrRange}, test{entries{right, entry(6, n, at(1))}, api.ErrRange})
	}
	for _, test := range tests {
		if e := palette.Entries(test.l); e != test.want {
			t.Errorf("Entries(%.200v): got %d, want %d", test.l, e, test.want)
		}
		if got, e := palette.Used(test.l); len(got) != 0 || e != test.want {
			t.Errorf("Used(%.200v): got %v, %d, want %d", test.l, got, e, test.want)
		}
		for _, l := range []palettes{nil, stage()} {
			if got, e := palette.Flat(l, test.l); len(got) != 0 || e != test.want {
				t.Errorf("Flat(%v, %.200v): got %v, %d, want %d", l, test.l, got, e, test.want)
			}
			if got, e := palette.Missing(l, test.l); len(got) != 0 || e != test.want {
				t.Errorf("Missing(%v, %.200v): got %v, %d, want %d", l, test.l, got, e, test.want)
			}
		}
	}
}

func TestLevel(t *testing.T) {
	for _, test := range []struct {
		v              api.Value
		channel, attr  int
		home, want     int
		hasNoHueOfThis bool
	}{
		{ref(4), 3, api.AttrRed, 8, 100, false}, {ref(4), 7, api.AttrRed, 8, 900, false}, {ref(4), 6, api.AttrRed, 8, 100, false}, {ref(4), 8, api.AttrRed, 8, 100, false}, {ref(4), 3, api.AttrGreen, 8, 8, true}, {ref(4), 7, api.AttrGreen, 9, 9, true}, {ref(4), 7, api.AttrTilt, 9, 9, true},
		{ref(5), 3, api.AttrRed, 8, 8, true}, {ref(6), 3, api.AttrRed, 8, 8, true}, {ref(1), 3, api.AttrRed, api.MaxLevel, api.MaxLevel, true}, {ref(api.MaxNumber - 1), 3, api.AttrRed, 0, 0, true},
		{ref(9), 1, api.AttrIntensity, 8, api.MaxLevel, false}, {ref(9), 2, api.AttrIntensity, 8, 8, true}, {ref(9), 1, api.AttrPan, 8, 3, false}, {ref(9), 1, api.AttrFocus, 8, 0, false}, {ref(9), 2, api.AttrFocus, 0, 8, false}, {ref(9), api.MaxChannel, api.AttrFocus, 0, 8, false}, {ref(9), api.MaxChannel, api.AttrTilt, 0, 77, false}, {ref(9), 998, api.AttrTilt, 0, 0, true},
		{ref(api.MaxNumber), api.MaxChannel, api.AttrFocus, 8, 1, false}, {ref(api.MaxNumber), 998, api.AttrFocus, 8, 8, true},
		{home(), 3, api.AttrRed, 8, 8, false}, {home(), 7, api.AttrRed, 0, 0, false}, {home(), 1, api.AttrIntensity, api.MaxLevel, api.MaxLevel, false}, {at(77), 3, api.AttrRed, 8, 77, false}, {at(0), 7, api.AttrRed, 8, 0, false}, {at(api.MaxLevel), 1, 0, 0, api.MaxLevel, false}, {at(4), 7, api.AttrRed, 8, 4, false},
	} {
		p := param(test.channel, test.attr)
		if got, e := palette.Level(stage(), test.v, p, test.home); got != test.want || e != api.OK {
			t.Errorf("Level of %v for %v at home at %d: got %d, %d, want %d", test.v, p, test.home, got, e, test.want)
		}
		flat, missing := entries{{Param: p, Value: test.v}}, params(nil)
		switch {
		case test.hasNoHueOfThis:
			flat[0].Value, missing = home(), params{p}
		case test.v != home():
			flat[0].Value = at(test.want)
		}
		if got, e := palette.Flat(stage(), entries{{Param: p, Value: test.v}}); !slices.Equal(got, flat) || e != api.OK {
			t.Errorf("Flat of %v for %v: got %v, %d, want %v", test.v, p, got, e, flat)
		}
		if got, e := palette.Missing(stage(), entries{{Param: p, Value: test.v}}); !slices.Equal(got, missing) || e != api.OK {
			t.Errorf("Missing of %v for %v: got %v, %d, want %v", test.v, p, got, e, missing)
		}
	}
}

func TestWrongLevels(t *testing.T) {
	for _, l := range []palettes{nil, stage()} {
		for _, v := range wrongValues() {
			checkNoLevel(t, l, v, param(1, 0), 8)
		}
		for _, v := range []api.Value{home(), at(77), ref(4), ref(6)} {
			for _, n := range outside(1, api.MaxChannel) {
				checkNoLevel(t, l, v, param(n, api.AttrRed), 8)
			}
			for _, n := range outside(0, api.Attrs-1) {
				checkNoLevel(t, l, v, param(7, n), 8)
			}
			for _, n := range outside(0, api.MaxLevel) {
				checkNoLevel(t, l, v, param(7, api.AttrRed), n)
			}
		}
	}
}

// checkNoLevel checks that Level returns ErrRange, and nothing beside it.
func checkNoLevel(t *testing.T, l palettes, v api.Value, p api.Param, home int) {
	t.Helper()
	if got, e := palette.Level(l, v, p, home); got != 0 || e != api.ErrRange {
		t.Errorf("Level(%v, %v, %v, %d): got %d, %d", l, v, p, home, got, e)
	}
}

func TestEntriesWithReferences(t *testing.T) {
	most := manyEntries(api.MaxEvents)
	all := make([]int, api.MaxEvents)
	for i := range all {
		all[i] = i + 1
	}
	for _, test := range []struct {
		l       entries
		used    []int
		flat    entries
		missing params
	}{
		{nil, nil, nil, nil}, {entries{entry(1, 1, home()), entry(1, 2, at(4))}, nil, entries{entry(1, 1, home()), entry(1, 2, at(4))}, nil},
		{entries{entry(3, api.AttrRed, ref(4)), entry(3, api.AttrGreen, ref(4)), entry(7, api.AttrRed, at(5))}, []int{4}, entries{entry(3, api.AttrRed, at(100)), entry(3, api.AttrGreen, home()), entry(7, api.AttrRed, at(5))}, params{param(3, api.AttrGreen)}},
		{
			entries{entry(1, api.AttrFocus, ref(9)), entry(2, api.AttrIntensity, ref(2)), entry(2, api.AttrPan, ref(9)), entry(2, api.AttrRed, home()), entry(7, api.AttrRed, ref(4)), entry(7, api.AttrFocus, ref(5)), entry(8, api.AttrIntensity, ref(2)), entry(999, api.AttrFocus, ref(api.MaxNumber))},
			[]int{2, 4, 5, 9, api.MaxNumber},
			entries{entry(1, api.AttrFocus, at(0)), entry(2, api.AttrIntensity, home()), entry(2, api.AttrPan, at(3)), entry(2, api.AttrRed, home()), entry(7, api.AttrRed, at(900)), entry(7, api.AttrFocus, home()), entry(8, api.AttrIntensity, home()), entry(999, api.AttrFocus, at(1))},
			params{param(2, api.AttrIntensity), param(7, api.AttrFocus), param(8, api.AttrIntensity)},
		},
	} {
		if got, e := palette.Used(test.l); !slices.Equal(got, test.used) || e != api.OK {
			t.Errorf("Used(%v): got %v, %d, want %v", test.l, got, e, test.used)
		}
		if got, e := palette.Flat(stage(), test.l); !slices.Equal(got, test.flat) || e != api.OK {
			t.Errorf("Flat(%v): got %v, %d, want %v", test.l, got, e, test.flat)
		}
		if got, e := palette.Missing(stage(), test.l); !slices.Equal(got, test.missing) || e != api.OK {
			t.Errorf("Missing(%v): got %v, %d, want %v", test.l, got, e, test.missing)
		}
	}
	if got, e := palette.Used(most); !slices.Equal(got, all) || e != api.OK {
		t.Errorf("Used of as many entries as possible: got %v, %d", got, e)
	}
	if got, e := palette.Missing(nil, most); len(got) != api.MaxEvents || e != api.OK {
		t.Errorf("Missing of as many entries as possible: got %v, %d", got, e)
	}
}
