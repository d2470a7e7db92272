package palette_test

import (
	"math"
	"slices"
	"testing"

	"luminaire/api"
	"luminaire/palette"
)

type (
	palettes = []api.Palette
	entries  = []api.Entry
	params   = []api.Param
)

// of returns a palette.
func of(number int, hues ...api.Hue) api.Palette {
	return api.Palette{Number: number, Hues: hues}
}

// ref returns a reference to a palette.
func ref(number int) api.Value { return api.Value{Palette: number} }

// at returns the value that is a level.
func at(level int) api.Value { return api.Value{Level: level} }

// home returns the value that is home.
func home() api.Value { return api.Value{Palette: -1} }

func param(channel, attr int) api.Param { return api.Param{Channel: channel, Attr: attr} }

func entry(channel, attr int, v api.Value) api.Entry {
	return api.Entry{Param: param(channel, attr), Value: v}
}

// stage returns the palettes of most tests.
func stage() palettes {
	return palettes{
		of(4, api.Hue{Channel: 0, Attr: api.AttrRed, Level: 100}, api.Hue{Channel: 7, Attr: api.AttrRed, Level: 900}),
		of(5),
		of(9, api.Hue{Channel: 0, Attr: api.AttrPan, Level: 3}, api.Hue{Channel: 0, Attr: api.AttrFocus, Level: 8}, api.Hue{Channel: 1, Attr: api.AttrIntensity, Level: api.MaxLevel}, api.Hue{Channel: 1, Attr: api.AttrFocus, Level: 0}, api.Hue{Channel: api.MaxChannel, Attr: api.AttrTilt, Level: 77}),
		of(api.MaxNumber, api.Hue{Channel: api.MaxChannel, Attr: api.AttrFocus, Level: 1}),
	}
}

// equal reports whether lists of palettes are equal, one by one.
func equal(a, b palettes) bool {
	return slices.EqualFunc(a, b, func(x, y api.Palette) bool { return x.Number == y.Number && slices.Equal(x.Hues, y.Hues) })
}

// many returns palettes with the numbers from 1 on.
func many(n int) palettes {
	l := make(palettes, n)
	for i := range l {
		l[i] = of(i+1, api.Hue{Channel: i + 1, Attr: api.AttrPan, Level: i})
	}
	return l
}

// manyHues returns hues of all channels from 0 on.
func manyHues(n int) []api.Hue {
	l := make([]api.Hue, n)
	for i := range l {
		l[i] = api.Hue{Channel: i, Attr: api.AttrPan, Level: i}
	}
	return l
}

// outside returns ints that are not from one to another.
func outside(least, most int) []int {
	return []int{least - 1, least - 2, most + 1, most + 1<<32, least - 1<<32, math.MinInt, math.MaxInt}
}

func TestRightPalettes(t *testing.T) {
	for name, l := range map[string]palettes{
		"none": nil, "empty": {}, "all": stage(), "as many as possible": many(api.MaxPalettes), "some": many(9)[3:], "the first number": {of(1)}, "neighbours": {of(1), of(2)},
		"as many hues as possible": {of(3, manyHues(api.MaxList)...)}, "the same hues": {of(1, manyHues(5)...), of(2, manyHues(5)...)}, "empty hues": {of(1, []api.Hue{}...)},
		"the first hue": {of(1, api.Hue{})}, "the last hue": {of(1, api.Hue{Channel: api.MaxChannel, Attr: api.Attrs - 1, Level: api.MaxLevel})},
		"a lower attribute of the next channel": {of(1, api.Hue{Channel: 2, Attr: 9}, api.Hue{Channel: 3, Attr: 2})}, "the same levels": {of(1, api.Hue{Attr: 1, Level: 9}, api.Hue{Attr: 2, Level: 9}, api.Hue{Attr: 3, Level: 8})},
	} {
		if e := palette.Check(l); e != api.OK {
			t.Errorf("Check, %s: got %d", name, e)
		}
	}
}

// wrong is a list of palettes with its error.
type wrong struct {
	l    palettes
	want api.Errno
}

// wrongHues returns lists of which a palette has wrong hues, among them those with two errors of which the first one counts.
func wrongHues() []wrong {
	two := api.Hue{Channel: 5, Attr: 5, Level: 5}
	var l []wrong
	for _, test := range []struct {
		hues []api.Hue
		want api.Errno
	}{
		{manyHues(api.MaxList + 1), api.ErrMany}, {make([]api.Hue, api.MaxList+1), api.ErrMany}, {slices.Repeat([]api.Hue{{Level: -1}}, api.MaxList+1), api.ErrMany}, {make([]api.Hue, api.MaxList), api.ErrOrder},
		{[]api.Hue{two, two}, api.ErrOrder}, {[]api.Hue{two, {Channel: 5, Attr: 5, Level: 6}}, api.ErrOrder}, {[]api.Hue{two, {Channel: 5, Attr: 4, Level: 6}}, api.ErrOrder}, {[]api.Hue{two, {Channel: 4, Attr: 6, Level: 6}}, api.ErrOrder}, {[]api.Hue{two, {Channel: 0, Attr: 5}}, api.ErrOrder},
		{[]api.Hue{{}, two, {Channel: 9}, {Channel: 8}}, api.ErrOrder},
		{[]api.Hue{two, two, {Level: -1}}, api.ErrOrder}, {[]api.Hue{two, {Level: -1}, two}, api.ErrRange}, {[]api.Hue{two, {Channel: -1}}, api.ErrRange}, {[]api.Hue{two, {Attr: -1}}, api.ErrRange},
	} {
		l = append(l, wrong{palettes{of(2, test.hues...)}, test.want}, wrong{palettes{of(1), of(2, test.hues...), of(3)}, test.want})
	}
	for _, n := range outside(0, api.MaxChannel) {
		l = append(l, wrong{palettes{of(1, api.Hue{Channel: n})}, api.ErrRange})
	}
	for _, n := range outside(0, api.Attrs-1) {
		l = append(l, wrong{palettes{of(1, two, api.Hue{Channel: 6, Attr: n})}, api.ErrRange})
	}
	for _, n := range outside(0, api.MaxLevel) {
		l = append(l, wrong{palettes{of(1, two, api.Hue{Channel: 6, Level: n})}, api.ErrRange})
	}
	return l
}

// wrongLists returns wrong lists, among them those with two errors of which the first one counts.
func wrongLists() []wrong {
	broken := []api.Hue{{Level: -1}}
	l := append(wrongHues(),
		wrong{many(api.MaxPalettes + 1), api.ErrMany}, wrong{make(palettes, api.MaxPalettes+1), api.ErrMany}, wrong{make(palettes, api.MaxPalettes), api.ErrRange},
		wrong{palettes{of(5), of(5)}, api.ErrOrder}, wrong{palettes{of(5), of(4)}, api.ErrOrder}, wrong{palettes{of(1), of(3), of(2)}, api.ErrOrder}, wrong{palettes{of(2), of(3), of(2)}, api.ErrOrder},
		wrong{palettes{of(5), of(4), of(0)}, api.ErrOrder}, wrong{palettes{of(5), of(0), of(4)}, api.ErrRange}, wrong{palettes{of(5, manyHues(api.MaxList+1)...), of(4)}, api.ErrMany},
		wrong{palettes{of(5), of(5, manyHues(api.MaxList+1)...)}, api.ErrOrder}, wrong{palettes{of(5), of(4, broken...)}, api.ErrOrder}, wrong{palettes{of(5, broken...), of(4)}, api.ErrRange},
		wrong{palettes{of(0, manyHues(api.MaxList+1)...)}, api.ErrRange}, wrong{palettes{of(5), of(-1, make([]api.Hue, 2)...)}, api.ErrRange},
	)
	for _, n := range outside(1, api.MaxNumber) {
		l = append(l, wrong{palettes{of(n)}, api.ErrRange}, wrong{palettes{of(n), of(api.MaxNumber)}, api.ErrRange}, wrong{palettes{of(1), of(n)}, api.ErrRange})
	}
	return l
}

// TestWrongPalettes checks that all functions with a list of palettes return its error first, and nothing beside it.
func TestWrongPalettes(t *testing.T) {
	for _, test := range wrongLists() {
		if e := palette.Check(test.l); e != test.want {
			t.Errorf("Check(%.200v): got %d, want %d", test.l, e, test.want)
		}
		for _, n := range []int{1, 5, 0, api.MaxNumber + 1} {
			if i, found, e := palette.Find(test.l, n); i != 0 || found || e != test.want {
				t.Errorf("Find(%.200v, %d): got %d, %t, %d, want %d", test.l, n, i, found, e, test.want)
			}
			if got, found, e := palette.Drop(test.l, n); len(got) != 0 || found || e != test.want {
				t.Errorf("Drop(%.200v, %d): got %v, %t, %d, want %d", test.l, n, got, found, e, test.want)
			}
			for _, x := range []api.Palette{of(n), of(n, make([]api.Hue, 2)...)} {
				if got, e := palette.Put(test.l, x); len(got) != 0 || e != test.want {
					t.Errorf("Put(%.200v, %v): got %v, %d, want %d", test.l, x, got, e, test.want)
				}
			}
			if got, e := palette.Level(test.l, at(n), param(n, 0), n); got != 0 || e != test.want {
				t.Errorf("Level(%.200v) of a level %d: got %d, %d, want %d", test.l, n, got, e, test.want)
			}
		}
		for _, x := range []entries{nil, {entry(1, 1, ref(1))}, {entry(1, 1, ref(1)), entry(1, 1, ref(1))}, {{}}, make(entries, api.MaxEvents+1)} {
			if got, e := palette.Flat(test.l, x); len(got) != 0 || e != test.want {
				t.Errorf("Flat(%.200v, %.200v): got %v, %d, want %d", test.l, x, got, e, test.want)
			}
			if got, e := palette.Missing(test.l, x); len(got) != 0 || e != test.want {
				t.Errorf("Missing(%.200v, %.200v): got %v, %d, want %d", test.l, x, got, e, test.want)
			}
		}
	}
}

func TestFind(t *testing.T) {
	for _, l := range []palettes{stage(), stage()[:1], stage()[1:], many(api.MaxPalettes)} {
		for i, x := range l {
			if got, found, e := palette.Find(l, x.Number); got != i || !found || e != api.OK {
				t.Errorf("Find(%v, %d): got %d, %t, %d, want %d", l, x.Number, got, found, e, i)
			}
		}
	}
	for _, n := range append(outside(1, api.MaxNumber), 1, 3, 6, 8, 10, api.MaxNumber-1, 4+1<<32) {
		for _, l := range []palettes{stage(), nil} {
			if got, found, e := palette.Find(l, n); got != 0 || found || e != api.OK {
				t.Errorf("Find(%v, %d): got %d, %t, %d", l, n, got, found, e)
			}
			if got, found, e := palette.Drop(l, n); !equal(got, l) || found || e != api.OK {
				t.Errorf("Drop(%v, %d): got %v, %t, %d", l, n, got, found, e)
			}
		}
	}
}

func TestPut(t *testing.T) {
	l := stage()
	red := api.Hue{Channel: 6, Attr: api.AttrRed, Level: 6}
	full := many(api.MaxPalettes)
	for _, test := range []struct {
		l, want palettes
		x       api.Palette
	}{
		{nil, palettes{of(1)}, of(1)}, {nil, palettes{of(api.MaxNumber, red)}, of(api.MaxNumber, red)},
		{l, palettes{of(1, red), l[0], l[1], l[2], l[3]}, of(1, red)}, {l, palettes{l[0], l[1], of(6), l[2], l[3]}, of(6)}, {l, palettes{l[0], l[1], l[2], of(10, red), l[3]}, of(10, red)}, {l[:3], palettes{l[0], l[1], l[2], of(10, red)}, of(10, red)},
		{l, palettes{of(4, red), l[1], l[2], l[3]}, of(4, red)}, {l, palettes{l[0], of(5, red), l[2], l[3]}, of(5, red)}, {l, palettes{l[0], l[1], l[2], of(api.MaxNumber)}, of(api.MaxNumber)}, {l, l, l[2]},
		{full, slices.Concat(palettes{of(1)}, full[1:]), of(1)}, {full, slices.Concat(full[:api.MaxPalettes-1], palettes{of(api.MaxPalettes, red)}), of(api.MaxPalettes, red)}, {full[1:], full, full[0]},
		{nil, palettes{of(7, manyHues(api.MaxList)...)}, of(7, manyHues(api.MaxList)...)},
	} {
		if got, e := palette.Put(test.l, test.x); !equal(got, test.want) || e != api.OK {
			t.Errorf("Put(%v, %v): got %v, %d, want %v", test.l, test.x, got, e, test.want)
		}
	}
}

func TestWrongPuts(t *testing.T) {
	full := many(api.MaxPalettes)
	for _, x := range []api.Palette{of(api.MaxPalettes + 1), of(api.MaxNumber, manyHues(3)...)} {
		if got, e := palette.Put(full, x); len(got) != 0 || e != api.ErrMany {
			t.Errorf("Put of one more than there may be: got %v, %d", got, e)
		}
	}
	for _, test := range wrongLists() {
		if len(test.l) != 1 {
			continue
		}
		for _, l := range []palettes{nil, stage(), full} {
			if got, e := palette.Put(l, test.l[0]); len(got) != 0 || e != test.want {
				t.Errorf("Put(%.200v, %.200v): got %v, %d, want %d", l, test.l[0], got, e, test.want)
			}
		}
	}
}

func TestDrop(t *testing.T) {
	l := stage()
	for _, test := range []struct {
		l, want palettes
		number  int
	}{
		{l, l[1:], 4}, {l, palettes{l[0], l[2], l[3]}, 5}, {l, palettes{l[0], l[1], l[3]}, 9}, {l, l[:3], api.MaxNumber}, {l[:1], nil, 4}, {many(api.MaxPalettes), many(api.MaxPalettes - 1), api.MaxPalettes},
	} {
		if got, found, e := palette.Drop(test.l, test.number); !equal(got, test.want) || !found || e != api.OK {
			t.Errorf("Drop(%v, %d): got %v, %t, %d, want %v", test.l, test.number, got, found, e, test.want)
		}
	}
}
