package glide_test

import (
	"math"
	"strings"
	"testing"

	"luminaire/api"
	"luminaire/glide"
)

// zeros returns n zeros.
func zeros(n int) api.Rat {
	return api.Rat(strings.Repeat("0", n))
}

// power returns 10 to the power of n.
func power(n int) api.Rat {
	return "1" + zeros(n)
}

// nines returns an integer of n digits.
func nines(n int) api.Rat {
	return api.Rat(strings.Repeat("9", n))
}

// short abbreviates a long text for a message.
func short(v api.Rat) string {
	if len(v) > 60 {
		return string(v[:30]) + ".." + string(v[len(v)-20:])
	}
	return string(v)
}

// badLevels returns texts that are not levels, with the error of each.
func badLevels() map[api.Rat]api.Errno {
	large := nines(api.MaxLong + 1)
	return map[api.Rat]api.Errno{
		"": api.ErrForm, "x": api.ErrForm, "-0": api.ErrForm, "01": api.ErrForm, "1.5": api.ErrForm, "2/4": api.ErrForm,
		"3/1": api.ErrForm, "1/-2": api.ErrForm, "1/0": api.ErrForm, "01/" + large: api.ErrForm,
		large: api.ErrLarge, "-" + large: api.ErrLarge, large + "/2": api.ErrLarge, "1/" + large: api.ErrLarge,
		"-1": api.ErrRange, "-1/3": api.ErrRange, "-1/1000000000000": api.ErrRange, "65536": api.ErrRange,
		"131071/2": api.ErrRange, "65535000000000001/1000000000000": api.ErrRange, "9223372036854775808": api.ErrRange,
		"-9223372036854775809": api.ErrRange, "18446744073709551616": api.ErrRange, nines(1000): api.ErrRange,
		"-1/" + power(999): api.ErrRange, "65535" + zeros(989) + "1/" + power(990): api.ErrRange,
	}
}

// badGlides returns glides that are not right, with the error of each.
func badGlides() map[api.Glide]api.Errno {
	bad := map[api.Glide]api.Errno{
		{From: "0", To: -1}: api.ErrRange, {From: "0", To: api.MaxLevel + 1}: api.ErrRange,
		{From: "0", Start: -1}: api.ErrRange, {From: "0", Start: api.MaxTime + 1}: api.ErrRange,
		{From: "0", Time: -1}: api.ErrRange, {From: "0", Time: api.MaxTime + 1}: api.ErrRange,
		{From: "0", To: math.MinInt}: api.ErrRange, {From: "0", To: math.MaxInt}: api.ErrRange,
		{From: "0", Start: math.MinInt}: api.ErrRange, {From: "0", Start: math.MaxInt}: api.ErrRange,
		{From: "0", Time: math.MinInt}: api.ErrRange, {From: "0", Time: math.MaxInt}: api.ErrRange,
		{From: "5", To: -1, Start: -1, Time: -1}: api.ErrRange,
	}
	for from, e := range badLevels() {
		bad[api.Glide{From: from}] = e
		bad[api.Glide{From: from, To: 7, Start: 7, Time: 7}] = e
		bad[api.Glide{From: from, To: -1, Start: -1, Time: -1}] = e // the text is checked before the ints
	}
	return bad
}

func TestCheck(t *testing.T) {
	right := []api.Glide{
		{From: "0"}, {From: "65535", To: api.MaxLevel, Start: api.MaxTime, Time: api.MaxTime}, {From: "1", To: 65534},
		{From: "65535/2"}, {From: "131069/2"}, {From: "1/1000000000000"}, {From: "65534999999999999/1000000000000"},
		{From: "1/" + power(999)}, {From: power(999) + "/" + nines(995)}, {From: "65534" + nines(990) + "/" + power(990)},
	}
	for _, g := range right {
		if e := glide.Check(g); e != api.OK {
			t.Errorf("Check(%q to %d, %d, %d): got %d", short(g.From), g.To, g.Start, g.Time, e)
		}
	}
	for g, want := range badGlides() {
		if e := glide.Check(g); e != want {
			t.Errorf("Check(%q to %d, %d, %d): got %d, want %d", short(g.From), g.To, g.Start, g.Time, e, want)
		}
	}
}

func TestFullAndZero(t *testing.T) {
	if got := glide.Full(); got != (api.Glide{From: "65535", To: api.MaxLevel}) {
		t.Errorf("Full: got %v", got)
	}
	if got := glide.Zero(); got != (api.Glide{From: "0"}) {
		t.Errorf("Zero: got %v", got)
	}
}

func TestAtAndDone(t *testing.T) {
	up := api.Glide{From: "0", To: 1000, Start: 200, Time: 400}
	down := api.Glide{From: "65535", To: 0, Start: 1000, Time: 2000}
	third := api.Glide{From: "100/3", To: 10, Start: 5, Time: 7}
	level := api.Glide{From: "9/2", To: 4, Start: 50, Time: 1}
	jump := api.Glide{From: "7", To: 9, Start: 30}
	first := api.Glide{From: "7/2", To: 9, Time: 2}
	late := api.Glide{From: "0", To: api.MaxLevel, Start: api.MaxTime, Time: api.MaxTime}
	tests := []struct {
		g    api.Glide
		t    int
		want api.Rat
		done bool
	}{
		{up, math.MinInt, "0", false}, {up, -200, "0", false}, {up, 0, "0", false}, {up, 199, "0", false}, {up, 200, "0", false},
		{up, 201, "5/2", false}, {up, 300, "250", false}, {up, 400, "500", false}, {up, 599, "1995/2", false},
		{up, 600, "1000", true}, {up, 601, "1000", true}, {up, math.MaxInt, "1000", true},
		{down, 999, "65535", false}, {down, 1000, "65535", false}, {down, 2000, "65535/2", false}, {down, 2999, "13107/400", false},
		{down, 3000, "0", true},
		{third, 5, "100/3", false}, {third, 6, "30", false}, {third, 11, "40/3", false}, {third, 12, "10", true},
		{level, 49, "9/2", false}, {level, 50, "9/2", false}, {level, 51, "4", true},
		{jump, 29, "7", false}, {jump, 30, "9", true}, {jump, 31, "9", true}, {jump, math.MinInt, "7", false},
		{first, -1, "7/2", false}, {first, 0, "7/2", false}, {first, 1, "25/4", false}, {first, 2, "9", true},
		{late, api.MaxTime, "0", false}, {late, 3 * api.MaxTime / 2, "65535/2", false},
		{late, 2*api.MaxTime - 1, "131069986893/2000000", false}, {late, 2 * api.MaxTime, "65535", true},
		{glide.Full(), -1, "65535", false}, {glide.Full(), 0, "65535", true}, {glide.Zero(), 0, "0", true},
	}
	for _, test := range tests {
		if got, e := glide.At(test.g, test.t); got != test.want || e != api.OK {
			t.Errorf("At(%v, %d): got %q, %d, want %q", test.g, test.t, got, e, test.want)
		}
		if got, e := glide.Done(test.g, test.t); got != test.done || e != api.OK {
			t.Errorf("Done(%v, %d): got %t, %d, want %t", test.g, test.t, got, e, test.done)
		}
	}
}

// TestFadeOfTheConsole is the fade of the document's first example.
func TestFadeOfTheConsole(t *testing.T) {
	g, e := glide.Go(glide.Zero(), 1000, api.MaxLevel, 2000)
	if e != api.OK {
		t.Fatalf("Go: got %d", e)
	}
	for at, want := range map[int]api.Rat{1000: "0", 2000: "65535/2", 3000: "65535", 9000: "65535"} {
		if got, e := glide.At(g, at); got != want || e != api.OK {
			t.Errorf("At %d: got %q, %d, want %q", at, got, e, want)
		}
	}
}

func TestGo(t *testing.T) {
	up := api.Glide{From: "0", To: 1000, Start: 200, Time: 400}
	jump := api.Glide{From: "7", To: 9, Start: 30}
	tests := []struct {
		g           api.Glide
		t, to, time int
		from        api.Rat
	}{
		{up, 300, 0, 100, "250"}, {up, 0, 5, 1, "0"}, {up, 200, 5, 0, "0"}, {up, 201, 65535, 3, "5/2"},
		{up, 600, 7, api.MaxTime, "1000"}, {up, api.MaxTime, 0, 0, "1000"},
		{jump, 29, 1, 1, "7"}, {jump, 30, 1, 1, "9"}, {glide.Full(), 0, 0, 20, "65535"},
	}
	for _, test := range tests {
		want := api.Glide{From: test.from, To: test.to, Start: test.t, Time: test.time}
		if got, e := glide.Go(test.g, test.t, test.to, test.time); got != want || e != api.OK {
			t.Errorf("Go(%v, %d, %d, %d): got %v, %d, want %v", test.g, test.t, test.to, test.time, got, e, want)
		}
	}
}

func TestGoErrors(t *testing.T) {
	tests := []struct{ t, to, time int }{
		{-1, 0, 0}, {api.MaxTime + 1, 0, 0}, {math.MinInt, 0, 0}, {math.MaxInt, 0, 0},
		{0, -1, 0}, {0, api.MaxLevel + 1, 0}, {0, math.MinInt, 0}, {0, math.MaxInt, 0},
		{0, 0, -1}, {0, 0, api.MaxTime + 1}, {0, 0, math.MinInt}, {0, 0, math.MaxInt}, {-1, -1, -1},
	}
	for _, test := range tests {
		if got, e := glide.Go(glide.Full(), test.t, test.to, test.time); got != (api.Glide{}) || e != api.ErrRange {
			t.Errorf("Go(Full, %d, %d, %d): got %v, %d, want ErrRange", test.t, test.to, test.time, got, e)
		}
		if got, e := glide.Go(api.Glide{From: "2/4"}, test.t, test.to, test.time); got != (api.Glide{}) || e != api.ErrForm {
			t.Errorf("Go(2/4, %d, %d, %d): got %v, %d, want ErrForm", test.t, test.to, test.time, got, e)
		}
	}
}

func TestFunctionsOfBadGlides(t *testing.T) {
	for g, want := range badGlides() {
		for _, at := range []int{math.MinInt, -1, 0, 7, api.MaxTime, math.MaxInt} {
			if got, e := glide.At(g, at); got != "" || e != want {
				t.Errorf("At(%q.., %d): got %q, %d, want %d", short(g.From), at, short(got), e, want)
			}
			if got, e := glide.Done(g, at); got || e != want {
				t.Errorf("Done(%q.., %d): got %t, %d, want %d", short(g.From), at, got, e, want)
			}
		}
		if got, e := glide.Go(g, 3, 4, 5); got != (api.Glide{}) || e != want {
			t.Errorf("Go(%q..): got %v, %d, want %d", short(g.From), got, e, want)
		}
	}
}
