package cuelist_test

import (
	"math"
	"slices"
	"strings"
	"testing"

	"luminaire/api"
	"luminaire/cuelist"
)

// outside returns ints that are not from one to another.
func outside(least, most int) []int {
	return []int{least - 1, least - 2, most + 1, most + 1<<32, least - 1<<32, math.MinInt, math.MaxInt}
}

func TestRightLists(t *testing.T) {
	numbered := func(number, priority int) api.List { return api.List{Number: number, Priority: priority} }
	for name, l := range map[string]api.List{
		"example": example(), "scene": scene(), "without cues": of(), "with empty cues": {Number: 1, Cues: cues{}}, "as many as possible": many(api.MaxCues),
		"first number": numbered(1, 0), "last number": numbered(api.MaxNumber, 0), "highest priority": numbered(1, api.MaxPriority),
		"neighbours": of(plain("1", ""), plain("1.001", "")), "first and last": of(plain("0.001", ""), plain("9999.999", "")), "order of numbers, not of texts": of(plain("2", ""), plain("10", ""), plain("10.5", ""), plain("10.51", "")),
		"links to themselves and nowhere": of(plain("1", "1"), plain("2", "9999")),
	} {
		if e := cuelist.Check(l); e != api.OK {
			t.Errorf("Check, %s: got %d", name, e)
		}
	}
}

// wrongCue is a cue with the error of cue.Check.
type wrongCue struct {
	c    api.Cue
	want api.Errno
}

// wrongCues returns cues with number 2 and all errors that there are, and cues with wrong numbers.
func wrongCues() []wrongCue {
	changed := func(change func(c *api.Cue)) api.Cue {
		c := full("2")
		change(&c)
		return c
	}
	return []wrongCue{
		{api.Cue{}, api.ErrForm}, {plain("x", ""), api.ErrForm}, {plain("2.0", ""), api.ErrForm}, {plain("0", ""), api.ErrRange}, {plain("10000", ""), api.ErrRange},
		{changed(func(c *api.Cue) { c.Label = strings.Repeat("x", api.MaxName+1) }), api.ErrLong}, {changed(func(c *api.Cue) { c.Label = "\n" }), api.ErrForm},
		{changed(func(c *api.Cue) { c.Moves = make([]api.Move, api.MaxMoves+1) }), api.ErrMany}, {changed(func(c *api.Cue) { c.Moves[1].Param.Channel = 0 }), api.ErrRange}, {changed(func(c *api.Cue) { c.Moves[1] = c.Moves[0] }), api.ErrOrder},
		{changed(func(c *api.Cue) { c.Parts = nil }), api.ErrEmpty}, {changed(func(c *api.Cue) { c.Parts = make([]api.Timing, api.MaxParts+1) }), api.ErrMany}, {changed(func(c *api.Cue) { c.Parts[1].Delay = -1 }), api.ErrRange}, {changed(func(c *api.Cue) { c.Parts = c.Parts[:1] }), api.ErrNone},
		{changed(func(c *api.Cue) { c.Follow = 0 }), api.ErrRange}, {changed(func(c *api.Cue) { c.Link = "1." }), api.ErrForm}, {changed(func(c *api.Cue) { c.Link = "0" }), api.ErrRange},
		{changed(func(c *api.Cue) { c.Loops = 101 }), api.ErrRange}, {changed(func(c *api.Cue) { c.Link = "" }), api.ErrUse},
	}
}

// wrongList is a list with its error.
type wrongList struct {
	l    api.List
	want api.Errno
}

// wrongLists returns wrong lists, among them those with two errors of which the first one counts.
func wrongLists() []wrongList {
	one, two, three, empty := plain("1", ""), plain("2", "1"), plain("3", ""), api.Cue{Number: "2"}
	l := []wrongList{
		{api.List{}, api.ErrRange}, {many(api.MaxCues + 1), api.ErrMany}, {api.List{Number: 1, Cues: make(cues, api.MaxCues+1)}, api.ErrMany}, {api.List{Number: 1, Cues: make(cues, api.MaxCues)}, api.ErrForm},
		{of(two, two), api.ErrOrder}, {of(two, one), api.ErrOrder}, {of(one, three, two), api.ErrOrder}, {of(one, two, one), api.ErrOrder}, {of(plain("10", ""), plain("9", "")), api.ErrOrder}, {of(plain("1.1", ""), plain("1.09", "")), api.ErrOrder},
		// The first cue with an error counts, and of this one the first error.
		{of(three, two, empty), api.ErrOrder}, {of(three, empty, two), api.ErrEmpty}, {of(empty, two, two), api.ErrEmpty}, {of(plain("x", ""), empty), api.ErrForm}, {of(empty, plain("x", "")), api.ErrEmpty}, {of(three, plain("0", "")), api.ErrRange},
		// Whatever the cues are.
		{api.List{Number: 0, Priority: 0, Cues: make(cues, api.MaxCues+1)}, api.ErrRange}, {api.List{Number: 0, Priority: 0, Cues: cues{two, one}}, api.ErrRange}, {api.List{Number: 1, Priority: -1, Cues: make(cues, api.MaxCues+1)}, api.ErrRange}, {api.List{Number: 1, Priority: 10, Cues: cues{empty}}, api.ErrRange}, {api.List{Number: 1, Cues: slices.Repeat(cues{two}, api.MaxCues+1)}, api.ErrMany},
	}
	for _, x := range wrongCues() {
		l = append(l, wrongList{of(x.c), x.want}, wrongList{of(one, x.c, three), x.want}, wrongList{of(one, x.c, one), x.want})
	}
	for _, n := range outside(1, api.MaxNumber) {
		l = append(l, wrongList{api.List{Number: n}, api.ErrRange}, wrongList{api.List{Number: n, Priority: 9, Cues: example().Cues}, api.ErrRange})
	}
	for _, n := range outside(0, api.MaxPriority) {
		l = append(l, wrongList{api.List{Number: 1, Priority: n}, api.ErrRange}, wrongList{api.List{Number: 1, Priority: n, Cues: example().Cues}, api.ErrRange})
	}
	return l
}

// TestWrongLists checks that all functions with a list return its error first, and nothing beside it.
func TestWrongLists(t *testing.T) {
	for _, test := range wrongLists() {
		if e := cuelist.Check(test.l); e != test.want {
			t.Errorf("Check(%.200v): got %d, want %d", test.l, e, test.want)
		}
		for _, number := range []string{"1", "2", "x", "0", "2.5"} {
			checkNumbered(t, test.l, number, test.want)
			for _, to := range []string{"1", "7", ""} {
				if got, e := cuelist.Renumber(test.l, number, to); !equal(got, none()) || e != test.want {
					t.Errorf("Renumber(%.200v, %q, %q): got %v, %d, want %d", test.l, number, to, got, e, test.want)
				}
			}
		}
		for _, c := range []api.Cue{{}, {Number: "1"}, plain("1", ""), full("7")} {
			if got, e := cuelist.Put(test.l, c); !equal(got, none()) || e != test.want {
				t.Errorf("Put(%.200v, %v): got %v, %d, want %d", test.l, c, got, e, test.want)
			}
		}
		for name, end := range map[string]func(l api.List) (string, bool, api.Errno){"First": cuelist.First, "Last": cuelist.Last} {
			if got, found, e := end(test.l); got != "" || found || e != test.want {
				t.Errorf("%s(%.200v): got %q, %t, %d, want %d", name, test.l, got, found, e, test.want)
			}
		}
		if got, e := cuelist.Open(test.l); len(got) != 0 || e != test.want {
			t.Errorf("Open(%.200v): got %v, %d, want %d", test.l, got, e, test.want)
		}
		for _, n := range []int{-1, 0, 1, 4} {
			if got, e := cuelist.Refers(test.l, n); len(got) != 0 || e != test.want {
				t.Errorf("Refers(%.200v, %d): got %v, %d, want %d", test.l, n, got, e, test.want)
			}
		}
	}
}

// checkNumbered checks the error of all functions with one number of a cue, and that there is nothing beside it.
func checkNumbered(t *testing.T, l api.List, number string, want api.Errno) {
	t.Helper()
	if i, found, e := cuelist.Find(l, number); i != 0 || found || e != want {
		t.Errorf("Find(%.200v, %q): got %d, %t, %d, want %d", l, number, i, found, e, want)
	}
	if got, found, e := cuelist.Drop(l, number); !equal(got, none()) || found || e != want {
		t.Errorf("Drop(%.200v, %q): got %v, %t, %d, want %d", l, number, got, found, e, want)
	}
	for name, next := range map[string]func(l api.List, number string) (string, bool, api.Errno){"After": cuelist.After, "Before": cuelist.Before} {
		if got, found, e := next(l, number); got != "" || found || e != want {
			t.Errorf("%s(%.200v, %q): got %q, %t, %d, want %d", name, l, number, got, found, e, want)
		}
	}
}

// wrongNumbers returns texts that are no numbers of cues, with their errors.
func wrongNumbers() map[string]api.Errno {
	return map[string]api.Errno{
		"": api.ErrForm, "x": api.ErrForm, "01": api.ErrForm, ".5": api.ErrForm, "1.": api.ErrForm, "1.50": api.ErrForm, "-1": api.ErrForm, " 1": api.ErrForm, "1\n": api.ErrForm,
		"0": api.ErrRange, "10000": api.ErrRange, "1.0001": api.ErrRange,
	}
}

func TestWrongNumbers(t *testing.T) {
	for number, want := range wrongNumbers() {
		for _, l := range []api.List{example(), of(), many(api.MaxCues)} {
			checkNumbered(t, l, number, want)
			for _, test := range []struct {
				from, to string
				want     api.Errno
			}{{number, "1", want}, {number, "7", want}, {"1", number, want}, {"7", number, want}, {number, number, want}, {"x", number, api.ErrForm}, {"0", number, api.ErrRange}, {number, "x", want}, {number, "0", want}} {
				if got, e := cuelist.Renumber(l, test.from, test.to); !equal(got, none()) || e != test.want {
					t.Errorf("Renumber(%v, %q, %q): got %v, %d, want %d", l, test.from, test.to, got, e, test.want)
				}
			}
		}
	}
}

func TestWrongPuts(t *testing.T) {
	for _, x := range wrongCues() {
		for _, l := range []api.List{example(), of(), many(api.MaxCues)} {
			if got, e := cuelist.Put(l, x.c); !equal(got, none()) || e != x.want {
				t.Errorf("Put(%v, %.200v): got %v, %d, want %d", l, x.c, got, e, x.want)
			}
		}
	}
	for _, number := range []string{"0.5", "1.5", "9999", "65"} {
		if got, e := cuelist.Put(many(api.MaxCues), full(number)); !equal(got, none()) || e != api.ErrMany {
			t.Errorf("Put of cue %s more than there may be: got %v, %d", number, got, e)
		}
	}
}
