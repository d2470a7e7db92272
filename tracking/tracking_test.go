package tracking_test

import (
	"math"
	"slices"
	"strconv"
	"testing"

	"luminaire/api"
	"luminaire/tracking"
)

type (
	cues    = []api.Cue
	moves   = []api.Move
	entries = []api.Entry
	params  = []api.Param
)

func param(channel, attr int) api.Param { return api.Param{Channel: channel, Attr: attr} }

// at returns an entry with a level.
func at(channel, attr, level int) api.Entry {
	return api.Entry{Param: param(channel, attr), Value: api.Value{Level: level}}
}

// ref returns an entry that refers to a palette.
func ref(channel, attr, palette int) api.Entry {
	return api.Entry{Param: param(channel, attr), Value: api.Value{Palette: palette}}
}

// home returns an entry that is home.
func home(channel, attr int) api.Entry { return ref(channel, attr, -1) }

// track returns a cue that moves parameters.
func track(number string, values ...api.Entry) api.Cue {
	c := api.Cue{Number: number, Parts: make([]api.Timing, 2), Follow: -1}
	for i, x := range values {
		c.Moves = append(c.Moves, api.Move{Param: x.Param, Value: x.Value, Part: 1 + i%2})
	}
	return c
}

// block returns a cue with Block.
func block(number string, values ...api.Entry) api.Cue {
	c := track(number, values...)
	c.Block = true
	return c
}

// of returns a list.
func of(l ...api.Cue) api.List {
	return api.List{Number: 1, Cues: l}
}

const pan, red, focus = api.AttrPan, api.AttrRed, api.AttrFocus

// example returns the list of the document's examples.
func example() api.List {
	return of(track("1", at(1, 0, 100), at(1, pan, 7)), track("2", at(1, 0, 200)), block("3", at(1, pan, 9)), track("4", at(2, 0, 50)))
}

// scene returns the list of most tests: values of all kinds, blocks one behind the other, one without moves, and cues with links.
func scene() api.List {
	l := of(
		block("0.5", ref(2, red, 4), at(3, 0, 0)), track("2", at(1, focus, 5), home(2, red)), track("10"), track("10.5", ref(2, red, 5), at(3, 0, 9)),
		block("11", at(3, 0, 9)), block("12"), track("100", at(1, focus, 6), home(3, 0)),
	)
	l.Cues[2].Link, l.Cues[3].Link, l.Cues[6].Link = "0.5", "11", "5"
	return l
}

// sheetOfScene returns the looks of scene.
func sheetOfScene() []entries {
	return []entries{
		{home(1, focus), ref(2, red, 4), at(3, 0, 0)}, {at(1, focus, 5), home(2, red), at(3, 0, 0)}, {at(1, focus, 5), home(2, red), at(3, 0, 0)}, {at(1, focus, 5), ref(2, red, 5), at(3, 0, 9)},
		{home(1, focus), home(2, red), at(3, 0, 9)}, {home(1, focus), home(2, red), home(3, 0)}, {at(1, focus, 6), home(2, red), home(3, 0)},
	}
}

// large returns a list with as many cues and moves as possible, none of which moves what another one moves.
func large() api.List {
	l := of()
	for i := range api.MaxCues {
		c := track(strconv.Itoa(i + 1))
		for j := range api.MaxMoves {
			n := 7 * (i*api.MaxMoves + j) % (api.MaxChannel * api.Attrs) // so that channels return in later cues
			c.Moves = append(c.Moves, api.Move{Param: param(1+n/api.Attrs, n%api.Attrs), Value: api.Value{Level: i}, Part: 1})
		}
		slices.SortFunc(c.Moves, func(a, b api.Move) int { return compare(a.Param, b.Param) })
		l.Cues = append(l.Cues, c)
	}
	return l
}

func TestFootprint(t *testing.T) {
	for _, test := range []struct {
		l    api.List
		want params
	}{
		{example(), params{param(1, 0), param(1, pan), param(2, 0)}}, {scene(), params{param(1, focus), param(2, red), param(3, 0)}}, {of(), nil}, {of(track("1"), block("2")), nil}, {of(track("1", home(5, 5))), params{param(5, 5)}},
		{of(track("1", at(999, focus, 1)), track("2", at(1, 0, 1)), track("3", at(1, focus, 1), at(2, 0, 1)), track("4", at(998, focus, 1))), params{param(1, 0), param(1, focus), param(2, 0), param(998, focus), param(999, focus)}},
		// What is behind a block, and never seen, is part of the footprint as well.
		{of(track("1", at(9, 0, 1)), block("2", at(1, 9, 1))), params{param(1, 9), param(9, 0)}},
	} {
		if got, e := tracking.Footprint(test.l); !slices.Equal(got, test.want) || e != api.OK {
			t.Errorf("Footprint(%v): got %v, %d, want %v", test.l, got, e, test.want)
		}
	}
}

// checkSheet compares all looks of a list with the right ones.
func checkSheet(t *testing.T, l api.List, want []entries) {
	t.Helper()
	sheet, e := tracking.Sheet(l)
	if len(sheet) != len(want) || e != api.OK {
		t.Fatalf("Sheet(%v): got %v, %d, want %v", l, sheet, e, want)
	}
	for i, c := range l.Cues {
		if !slices.Equal(sheet[i], want[i]) {
			t.Errorf("Sheet(%v): look %d is %v, want %v", l, i, sheet[i], want[i])
		}
		if look, e := tracking.Look(l, c.Number); !slices.Equal(look, want[i]) || e != api.OK {
			t.Errorf("Look(%v, %q): got %v, %d, want %v", l, c.Number, look, e, want[i])
		}
	}
}

func TestLooks(t *testing.T) {
	checkSheet(t, of(), nil)
	checkSheet(t, example(), []entries{
		{at(1, 0, 100), at(1, pan, 7), home(2, 0)}, {at(1, 0, 200), at(1, pan, 7), home(2, 0)}, {home(1, 0), at(1, pan, 9), home(2, 0)}, {home(1, 0), at(1, pan, 9), at(2, 0, 50)},
	})
	checkSheet(t, scene(), sheetOfScene())
	checkSheet(t, of(track("1"), block("2")), make([]entries, 2))
	checkSheet(t, of(track("1"), track("2", at(1, 0, 3)), track("3")), []entries{{home(1, 0)}, {at(1, 0, 3)}, {at(1, 0, 3)}})
	checkSheet(t, of(block("1", at(1, 0, 3)), block("2", at(1, 0, 3)), block("3")), []entries{{at(1, 0, 3)}, {at(1, 0, 3)}, {home(1, 0)}})
	checkSheet(t, of(track("9", at(1, 0, 3)), track("10", at(1, 0, 4)), track("10.1", home(1, 0))), []entries{{at(1, 0, 3)}, {at(1, 0, 4)}, {home(1, 0)}})
}

// TestLinksAndMarksDoNotMatter compares looks with and without all that does not matter.
func TestLinksAndMarksDoNotMatter(t *testing.T) {
	l := scene()
	l.Number, l.Priority = api.MaxNumber, 9
	for i, c := range l.Cues {
		l.Cues[i].Link, l.Cues[i].Loops, l.Cues[i].Follow, l.Cues[i].Mark, l.Cues[i].Label = l.Cues[6-i].Number, i, 25+i, !c.Mark, "Cue"
		l.Cues[i].Parts[0].Up = 10
		for j := range c.Moves {
			c.Moves[j].Part = 2
		}
	}
	checkSheet(t, l, sheetOfScene())
}

// TestLargeList looks at a list with as many cues and moves as possible.
func TestLargeList(t *testing.T) {
	l := large()
	footprint, e := tracking.Footprint(l)
	if len(footprint) != api.MaxCues*api.MaxMoves || !slices.IsSortedFunc(footprint, compare) || e != api.OK {
		t.Fatalf("Footprint: got %d parameters, %d", len(footprint), e)
	}
	sheet, e := tracking.Sheet(l)
	if len(sheet) != api.MaxCues || e != api.OK {
		t.Fatalf("Sheet: got %d looks, %d", len(sheet), e)
	}
	for i, look := range sheet {
		atHome := 0
		for j, x := range look {
			if x.Value.Palette == -1 {
				atHome++
			}
			if x.Param != footprint[j] || x.Value.Level > i {
				t.Errorf("in look %d there is %v", i, x)
			}
		}
		if len(look) != len(footprint) || atHome != (api.MaxCues-1-i)*api.MaxMoves {
			t.Errorf("look %d has %d parameters, of which %d are home", i, len(look), atHome)
		}
	}
	if steps, e := tracking.Steps(l, "33"); len(steps) != api.MaxMoves || e != api.OK {
		t.Errorf("Steps of cue 33: got %v, %d", steps, e)
	}
	if changes, e := tracking.Changes(l, "64", "1"); len(changes) != (api.MaxCues-1)*api.MaxMoves || e != api.OK {
		t.Errorf("Changes from 64 to 1: got %d, %d", len(changes), e)
	}
}

func TestOrigin(t *testing.T) {
	for _, test := range []struct {
		l            api.List
		number, want string
		p            api.Param
	}{
		{example(), "1", "1", param(1, 0)}, {example(), "1", "1", param(1, pan)}, {example(), "2", "1", param(1, pan)}, {example(), "2", "2", param(1, 0)}, {example(), "3", "3", param(1, pan)}, {example(), "3", "", param(1, 0)}, {example(), "4", "", param(1, 0)}, {example(), "4", "3", param(1, pan)}, {example(), "4", "4", param(2, 0)}, {example(), "3", "", param(2, 0)}, {example(), "1", "", param(5, 0)},
		{scene(), "0.5", "0.5", param(2, red)}, {scene(), "0.5", "", param(1, focus)}, {scene(), "2", "2", param(2, red)}, {scene(), "2", "0.5", param(3, 0)}, {scene(), "10", "2", param(2, red)}, {scene(), "10", "2", param(1, focus)}, {scene(), "10.5", "10.5", param(2, red)}, {scene(), "10.5", "2", param(1, focus)},
		{scene(), "11", "11", param(3, 0)}, {scene(), "11", "", param(2, red)}, {scene(), "12", "", param(3, 0)}, {scene(), "100", "100", param(3, 0)}, {scene(), "100", "100", param(1, focus)}, {scene(), "100", "", param(2, red)}, {scene(), "100", "", param(999, focus)}, {scene(), "100", "", param(2, red+1)},
	} {
		if got, found, e := tracking.Origin(test.l, test.number, test.p); got != test.want || found != (test.want != "") || e != api.OK {
			t.Errorf("Origin(%v, %q, %v): got %q, %t, %d, want %q", test.l, test.number, test.p, got, found, e, test.want)
		}
	}
}

func TestChanges(t *testing.T) {
	for _, test := range []struct {
		l        api.List
		from, to string
		want     entries
	}{
		{example(), "4", "1", entries{at(1, 0, 100), at(1, pan, 7), home(2, 0)}}, {example(), "1", "4", entries{home(1, 0), at(1, pan, 9), at(2, 0, 50)}}, {example(), "1", "2", entries{at(1, 0, 200)}}, {example(), "2", "1", entries{at(1, 0, 100)}}, {example(), "3", "3", nil},
		{scene(), "2", "10", nil}, {scene(), "10", "2", nil}, {scene(), "0.5", "10.5", entries{at(1, focus, 5), ref(2, red, 5), at(3, 0, 9)}}, {scene(), "10.5", "0.5", entries{home(1, focus), ref(2, red, 4), at(3, 0, 0)}}, {scene(), "100", "12", entries{home(1, focus)}}, {scene(), "0.5", "12", entries{home(2, red), home(3, 0)}},
		// Values differ, whatever their levels are.
		{of(track("1", at(1, 0, 0)), track("2", home(1, 0)), track("3", ref(1, 0, 1)), track("4", ref(1, 0, 2))), "2", "1", entries{at(1, 0, 0)}}, {of(track("1", at(1, 0, 1)), track("2", ref(1, 0, 1))), "1", "2", entries{ref(1, 0, 1)}}, {of(track("1", ref(1, 0, 1)), track("2", ref(1, 0, 2))), "1", "2", entries{ref(1, 0, 2)}},
	} {
		if got, e := tracking.Changes(test.l, test.from, test.to); !slices.Equal(got, test.want) || e != api.OK {
			t.Errorf("Changes(%v, %q, %q): got %v, %d, want %v", test.l, test.from, test.to, got, e, test.want)
		}
	}
}

func TestSteps(t *testing.T) {
	for _, test := range []struct {
		l    api.List
		want []entries
	}{
		{example(), []entries{{at(1, 0, 100), at(1, pan, 7)}, {at(1, 0, 200)}, {home(1, 0), at(1, pan, 9)}, {at(2, 0, 50)}}},
		{scene(), []entries{{ref(2, red, 4), at(3, 0, 0)}, {at(1, focus, 5), home(2, red)}, nil, {ref(2, red, 5), at(3, 0, 9)}, {home(1, focus), home(2, red)}, {home(3, 0)}, {at(1, focus, 6)}}},
		{of(track("1", home(1, 0)), track("2", at(1, 0, 0)), track("3", at(1, 0, 0)), block("4", at(1, 0, 0)), block("5")), []entries{nil, {at(1, 0, 0)}, nil, nil, {home(1, 0)}}},
	} {
		for i, c := range test.l.Cues {
			if got, e := tracking.Steps(test.l, c.Number); !slices.Equal(got, test.want[i]) || e != api.OK {
				t.Errorf("Steps(%v, %q): got %v, %d, want %v", test.l, c.Number, got, e, test.want[i])
			}
		}
	}
}

// checkWrong checks the error of all functions with one number of a cue, and that there is nothing beside it.
func checkWrong(t *testing.T, l api.List, number string, want api.Errno) {
	t.Helper()
	for name, look := range map[string]func(l api.List, number string) (entries, api.Errno){"Look": tracking.Look, "Steps": tracking.Steps} {
		if got, e := look(l, number); len(got) != 0 || e != want {
			t.Errorf("%s(%.200v, %q): got %v, %d, want %d", name, l, number, got, e, want)
		}
	}
	for _, p := range []api.Param{param(1, 0), param(7, 7), {}} {
		if got, found, e := tracking.Origin(l, number, p); got != "" || found || e != want {
			t.Errorf("Origin(%.200v, %q, %v): got %q, %t, %d, want %d", l, number, p, got, found, e, want)
		}
	}
}

// TestWrongLists checks that all functions return the error of a list first, and nothing beside it.
func TestWrongLists(t *testing.T) {
	for _, test := range []struct {
		l    api.List
		want api.Errno
	}{
		{api.List{}, api.ErrRange}, {api.List{Number: 1, Priority: 10, Cues: example().Cues}, api.ErrRange}, {api.List{Number: 1, Cues: make(cues, api.MaxCues+1)}, api.ErrMany},
		{of(track("2"), track("1")), api.ErrOrder}, {of(track("1"), track("1")), api.ErrOrder}, {of(api.Cue{Number: "1"}), api.ErrEmpty}, {of(track("1"), track("2", at(0, 0, 1))), api.ErrRange}, {of(track("1"), track("2", at(1, 0, 1), at(1, 0, 1))), api.ErrOrder}, {of(track("x")), api.ErrForm},
	} {
		if got, e := tracking.Footprint(test.l); len(got) != 0 || e != test.want {
			t.Errorf("Footprint(%.200v): got %v, %d, want %d", test.l, got, e, test.want)
		}
		if got, e := tracking.Sheet(test.l); len(got) != 0 || e != test.want {
			t.Errorf("Sheet(%.200v): got %v, %d, want %d", test.l, got, e, test.want)
		}
		for _, number := range []string{"1", "7", "x", "0"} {
			checkWrong(t, test.l, number, test.want)
			for _, to := range []string{"1", "7", "x"} {
				if got, e := tracking.Changes(test.l, number, to); len(got) != 0 || e != test.want {
					t.Errorf("Changes(%.200v, %q, %q): got %v, %d, want %d", test.l, number, to, got, e, test.want)
				}
			}
		}
	}
}

// TestWrongNumbers checks numbers that are none, or not those of a cue. The first of two counts.
func TestWrongNumbers(t *testing.T) {
	wrong := map[string]api.Errno{"": api.ErrForm, "x": api.ErrForm, "1.0": api.ErrForm, "0": api.ErrRange, "10000": api.ErrRange, "1.0001": api.ErrRange, "5": api.ErrNone, "0.999": api.ErrNone, "1.5": api.ErrNone}
	for number, want := range wrong {
		for _, l := range []api.List{example(), of(track("1"), block("3"))} {
			checkWrong(t, l, number, want)
			if got, e := tracking.Changes(l, "1", number); len(got) != 0 || e != want {
				t.Errorf("Changes(%v, 1, %q): got %v, %d, want %d", l, number, got, e, want)
			}
			for to := range wrong {
				for _, to := range []string{to, "1"} {
					if got, e := tracking.Changes(l, number, to); len(got) != 0 || e != want {
						t.Errorf("Changes(%v, %q, %q): got %v, %d, want %d", l, number, to, got, e, want)
					}
				}
			}
		}
	}
	for _, number := range []string{"1", "3", "x"} {
		want := api.ErrNone
		if number == "x" {
			want = api.ErrForm
		}
		checkWrong(t, of(), number, want)
	}
}

// outside returns ints that are not from one to another.
func outside(least, most int) []int {
	return []int{least - 1, least - 2, most + 1, most + 1<<32, least - 1<<32, math.MinInt, math.MaxInt}
}

func TestWrongParameters(t *testing.T) {
	var wrong params
	for _, n := range outside(1, api.MaxChannel) {
		wrong = append(wrong, param(n, 0))
	}
	for _, n := range outside(0, api.Attrs-1) {
		wrong = append(wrong, param(1, n))
	}
	for _, p := range wrong {
		for _, c := range example().Cues {
			if got, found, e := tracking.Origin(example(), c.Number, p); got != "" || found || e != api.ErrRange {
				t.Errorf("Origin of %v in cue %s: got %q, %t, %d", p, c.Number, got, found, e)
			}
		}
	}
}
