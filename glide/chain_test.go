package glide_test

import (
	"math"
	"slices"
	"testing"

	"luminaire/api"
	"luminaire/glide"
)

// rise is from 0 to 1000 in the time from 200 to 600.
func rise() api.Glide {
	return api.Glide{From: "0", To: 1000, Start: 200, Time: 400}
}

// overtaken returns the chain of the document's second example.
func overtaken() []api.Glide {
	return []api.Glide{rise(), {From: "250", To: 0, Start: 300, Time: 100}}
}

// repeated returns equal glides, which are a chain.
func repeated(n int) []api.Glide {
	return slices.Repeat([]api.Glide{{From: "5", To: 5, Start: 9, Time: 9}}, n)
}

func TestChain(t *testing.T) {
	up := rise()
	tests := []struct {
		name string
		l    []api.Glide
		want api.Errno
	}{
		{"nothing", nil, api.OK},
		{"one glide", []api.Glide{up}, api.OK},
		{"overtaken", overtaken(), api.OK},
		{"at the same start", []api.Glide{up, {From: "0", To: 9, Start: 200, Time: 50}}, api.OK},
		{"at the end", []api.Glide{up, {From: "1000", Start: 600}}, api.OK},
		{"behind the end", []api.Glide{up, {From: "1000", Start: 700}}, api.OK},
		{"behind a jump", []api.Glide{{From: "7", To: 9}, {From: "9", To: 8}}, api.OK},
		{"as many as possible", repeated(api.MaxList), api.OK},
		{"too many", repeated(api.MaxList + 1), api.ErrMany},
		{"too many that are wrong", make([]api.Glide, api.MaxList+1), api.ErrMany},
		{"earlier", []api.Glide{up, {From: "0", Start: 199}}, api.ErrOrder},
		{"earlier with another level", []api.Glide{up, {From: "3", Start: 199}}, api.ErrOrder},
		{"earlier with a wrong level", []api.Glide{up, {From: "2/4", Start: 199}}, api.ErrForm},
		{"earlier and out of the range", []api.Glide{up, {From: "0", Start: 199, To: -1}}, api.ErrRange},
		{"a higher level", []api.Glide{up, {From: "251", Start: 300}}, api.ErrForm},
		{"a level a bit lower", []api.Glide{up, {From: "249999999/1000000", Start: 300}}, api.ErrForm},
		{"not the level before a jump", []api.Glide{{From: "7", To: 9}, {From: "7", To: 8}}, api.ErrForm},
		{"not the level behind the end", []api.Glide{up, {From: "0", Start: 600}}, api.ErrForm},
		{"the first one is wrong", []api.Glide{{From: "-1"}, {From: "x"}}, api.ErrRange},
		{"the first one with an error", []api.Glide{up, {From: "1", Start: 200}, {From: "x"}}, api.ErrForm},
		{"the order before a later range", []api.Glide{up, {From: "0", Start: 1}, {From: "-1"}}, api.ErrOrder},
		{"the level before a later order", []api.Glide{up, {From: "1", Start: 200}, {From: "1", Start: 100}}, api.ErrForm},
		{"the third one", []api.Glide{up, up, {From: "0", Start: 100}}, api.ErrOrder},
	}
	for _, test := range tests {
		if e := glide.Chain(test.l); e != test.want {
			t.Errorf("Chain, %s: got %d, want %d", test.name, e, test.want)
		}
		if test.want == api.OK {
			continue
		}
		if got, e := glide.Value(test.l, 300); got != "" || e != test.want {
			t.Errorf("Value, %s: got %q, %d, want %d", test.name, got, e, test.want)
		}
		if got, e := glide.Knots(test.l); len(got) != 0 || e != test.want {
			t.Errorf("Knots, %s: got %v, %d, want %d", test.name, got, e, test.want)
		}
	}
	for g, want := range badGlides() {
		if e := glide.Chain([]api.Glide{g}); e != want {
			t.Errorf("Chain of %q: got %d, want %d", short(g.From), e, want)
		}
		if e := glide.Chain([]api.Glide{glide.Zero(), g}); e != want {
			t.Errorf("Chain of 0 and %q: got %d, want %d", short(g.From), e, want)
		}
	}
}

func TestValue(t *testing.T) {
	up := rise()
	gap := []api.Glide{up, {From: "1000", To: 0, Start: 700, Time: 200}}
	same := []api.Glide{up, {From: "0", To: 10, Start: 200, Time: 0}, {From: "10", To: 20, Start: 200, Time: 100}}
	tests := []struct {
		name string
		l    []api.Glide
		t    int
		want api.Rat
	}{
		{"before all", overtaken(), math.MinInt, "0"}, {"before all", overtaken(), 199, "0"},
		{"the first one", overtaken(), 250, "125"}, {"the first one", overtaken(), 299, "495/2"},
		{"overtaken", overtaken(), 300, "250"}, {"overtaken", overtaken(), 301, "495/2"}, {"overtaken", overtaken(), 350, "125"},
		{"at the end", overtaken(), 400, "0"}, {"behind the end", overtaken(), 600, "0"}, {"behind the end", overtaken(), math.MaxInt, "0"},
		{"a gap", gap, 600, "1000"}, {"a gap", gap, 650, "1000"}, {"a gap", gap, 700, "1000"}, {"behind a gap", gap, 800, "500"},
		{"before three at one time", same, 199, "0"}, {"the last of three", same, 200, "10"}, {"the last of three", same, 250, "15"},
		{"before a start that is not 0", []api.Glide{{From: "7/2", To: 1, Start: 9}}, 8, "7/2"},
	}
	for _, test := range tests {
		if got, e := glide.Value(test.l, test.t); got != test.want || e != api.OK {
			t.Errorf("Value, %s, at %d: got %q, %d, want %q", test.name, test.t, got, e, test.want)
		}
	}
	for _, l := range [][]api.Glide{nil, {}} {
		if got, e := glide.Value(l, 0); got != "" || e != api.ErrEmpty {
			t.Errorf("Value of no glides: got %q, %d, want ErrEmpty", got, e)
		}
	}
}

func TestKnots(t *testing.T) {
	up := rise()
	tests := []struct {
		name string
		l    []api.Glide
		want []glide.Knot
	}{
		{"nothing", nil, nil},
		{"one glide", []api.Glide{up}, []glide.Knot{{200, "0"}, {600, "1000"}}},
		{"a jump", []api.Glide{{From: "7", To: 9, Start: 30}}, []glide.Knot{{30, "7"}, {30, "9"}}},
		{"a jump to the same level", []api.Glide{{From: "7", To: 7, Start: 30}}, []glide.Knot{{30, "7"}}},
		{"a rest", []api.Glide{{From: "7", To: 7, Start: 30, Time: 5}}, []glide.Knot{{30, "7"}, {35, "7"}}},
		{"overtaken", overtaken(), []glide.Knot{{200, "0"}, {300, "250"}, {400, "0"}}},
		{"overtaken at the start", []api.Glide{up, {From: "0", To: 9, Start: 200, Time: 1}}, []glide.Knot{{200, "0"}, {201, "9"}}},
		{"overtaken just before the end", []api.Glide{up, {From: "1995/2", Start: 599, Time: 1}},
			[]glide.Knot{{200, "0"}, {599, "1995/2"}, {600, "0"}}},
		{"at the end", []api.Glide{up, {From: "1000", Start: 600, Time: 100}}, []glide.Knot{{200, "0"}, {600, "1000"}, {700, "0"}}},
		{"a jump at the end", []api.Glide{up, {From: "1000", To: 5, Start: 600}},
			[]glide.Knot{{200, "0"}, {600, "1000"}, {600, "5"}}},
		{"a gap", []api.Glide{up, {From: "1000", Start: 700, Time: 100}},
			[]glide.Knot{{200, "0"}, {600, "1000"}, {700, "1000"}, {800, "0"}}},
		{"two jumps at one time", []api.Glide{{From: "1", To: 2, Start: 5}, {From: "2", To: 3, Start: 5}},
			[]glide.Knot{{5, "1"}, {5, "2"}, {5, "3"}}},
		{"there and back", []api.Glide{{From: "1", To: 2, Start: 5}, {From: "2", To: 1, Start: 5}},
			[]glide.Knot{{5, "1"}, {5, "2"}, {5, "1"}}},
		{"equal ones", repeated(api.MaxList), []glide.Knot{{9, "5"}, {18, "5"}}},
	}
	for _, test := range tests {
		if got, e := glide.Knots(test.l); !slices.Equal(got, test.want) || e != api.OK {
			t.Errorf("Knots, %s: got %v, %d, want %v", test.name, got, e, test.want)
		}
	}
}

func TestRead(t *testing.T) {
	knots := []glide.Knot{{200, "0"}, {300, "250"}, {400, "0"}, {400, "7"}, {400, "9/2"}, {403, "5/3"}, {500, "5/3"}}
	tests := []struct {
		l    []glide.Knot
		t    int
		want api.Rat
	}{
		{knots, math.MinInt, "0"}, {knots, 199, "0"}, {knots, 200, "0"}, {knots, 201, "5/2"}, {knots, 299, "495/2"},
		{knots, 300, "250"}, {knots, 350, "125"}, {knots, 399, "5/2"}, {knots, 400, "9/2"}, {knots, 401, "32/9"},
		{knots, 402, "47/18"}, {knots, 403, "5/3"}, {knots, 450, "5/3"}, {knots, 500, "5/3"}, {knots, math.MaxInt, "5/3"},
		{[]glide.Knot{{7, "3"}}, 6, "3"}, {[]glide.Knot{{7, "3"}}, 7, "3"}, {[]glide.Knot{{7, "3"}}, 8, "3"},
		{[]glide.Knot{{7, "3"}, {7, "4"}}, 6, "3"}, {[]glide.Knot{{7, "3"}, {7, "4"}}, 7, "4"}, {[]glide.Knot{{7, "3"}, {7, "4"}}, 8, "4"},
		{[]glide.Knot{{0, "0"}, {2 * api.MaxTime, "65535"}}, api.MaxTime, "65535/2"},
	}
	for _, test := range tests {
		if got, e := glide.Read(test.l, test.t); got != test.want || e != api.OK {
			t.Errorf("Read(%v, %d): got %q, %d, want %q", test.l, test.t, got, e, test.want)
		}
	}
}

func TestReadErrors(t *testing.T) {
	right := glide.Knot{At: 5, Level: "1"}
	tests := []struct {
		name string
		l    []glide.Knot
		want api.Errno
	}{
		{"nothing", nil, api.ErrEmpty}, {"nothing", []glide.Knot{}, api.ErrEmpty},
		{"as many as possible", slices.Repeat([]glide.Knot{right}, 2*api.MaxList), api.OK},
		{"too many", slices.Repeat([]glide.Knot{right}, 2*api.MaxList+1), api.ErrMany},
		{"too many that are wrong", make([]glide.Knot, 2*api.MaxList+1), api.ErrMany},
		{"a time of 0", []glide.Knot{{0, "1"}}, api.OK},
		{"a negative time", []glide.Knot{{-1, "1"}}, api.ErrRange},
		{"the least int", []glide.Knot{{math.MinInt, "1"}}, api.ErrRange},
		{"the last time", []glide.Knot{{2 * api.MaxTime, "1"}}, api.OK},
		{"a time behind it", []glide.Knot{{2*api.MaxTime + 1, "1"}}, api.ErrRange},
		{"the greatest int", []glide.Knot{{math.MaxInt, "1"}}, api.ErrRange},
		{"the time before the level", []glide.Knot{{-1, "x"}}, api.ErrRange},
		{"the level before the order", []glide.Knot{right, {4, "x"}}, api.ErrForm},
		{"the range before the order", []glide.Knot{right, {4, "-1"}}, api.ErrRange},
		{"the order", []glide.Knot{right, {4, "1"}}, api.ErrOrder},
		{"the order before a later level", []glide.Knot{right, {4, "1"}, {5, "x"}}, api.ErrOrder},
		{"the level before a later order", []glide.Knot{right, {5, "x"}, {4, "1"}}, api.ErrForm},
		{"the third one", []glide.Knot{right, right, {4, "1"}}, api.ErrOrder},
		{"no zero value", []glide.Knot{{}}, api.ErrForm},
	}
	for _, test := range tests {
		got, e := glide.Read(test.l, 5)
		if e != test.want || e != api.OK && got != "" {
			t.Errorf("Read, %s: got %q, %d, want %d", test.name, got, e, test.want)
		}
	}
	for level, want := range badLevels() {
		if got, e := glide.Read([]glide.Knot{right, {9, level}}, 5); got != "" || e != want {
			t.Errorf("Read with the level %q: got %q, %d, want %d", short(level), got, e, want)
		}
	}
}

// TestListsAreNotShared checks that arguments stay as they are, beyond their length too, and that results are new.
func TestListsAreNotShared(t *testing.T) {
	room := append(overtaken(), rise(), rise(), rise(), rise())
	l, before := room[:2], slices.Clone(room)
	if e := glide.Chain(l); e != api.OK {
		t.Errorf("Chain: got %d", e)
	}
	if _, e := glide.Value(l, 350); e != api.OK {
		t.Errorf("Value: got %d", e)
	}
	first, _ := glide.Knots(l)
	kept := slices.Clone(first)
	clear(first[:cap(first)])
	if second, _ := glide.Knots(l); !slices.Equal(second, kept) {
		t.Errorf("Knots: got %v, want %v again", second, kept)
	}
	if !slices.Equal(room, before) {
		t.Errorf("the glides have become %v", room)
	}
	knots := append(slices.Clone(kept), glide.Knot{At: 1, Level: "1"})
	if _, e := glide.Read(knots[:len(kept)], 350); e != api.OK {
		t.Errorf("Read: got %d", e)
	}
	if !slices.Equal(knots[:len(kept)], kept) || knots[len(kept)] != (glide.Knot{At: 1, Level: "1"}) {
		t.Errorf("the knots have become %v", knots)
	}
}
