package cuelist_test

import (
	"math"
	"slices"
	"strconv"
	"testing"

	"luminaire/api"
	"luminaire/cue"
	"luminaire/cuelist"
)

type (
	cues    = []api.Cue
	numbers = []string
)

// plain returns a cue without moves.
func plain(number, link string) api.Cue {
	return api.Cue{Number: number, Parts: make([]api.Timing, 1), Follow: -1, Link: link}
}

// move returns a move to a palette, to home, or to level 0.
func move(channel, palette, part int) api.Move {
	return api.Move{Param: api.Param{Channel: channel}, Value: api.Value{Palette: palette}, Part: part}
}

// full returns a cue that has something of everything.
func full(number string) api.Cue {
	return api.Cue{Number: number, Label: "Night", Moves: []api.Move{move(1, 4, 1), move(2, 0, 1), move(3, -1, 2)}, Parts: []api.Timing{{Up: 1, Delay: 2}, {Beam: 3}}, Block: true, Mark: true, Follow: 50, Link: number, Loops: 3}
}

// of returns a list.
func of(l ...api.Cue) api.List {
	return api.List{Number: 1, Cues: l}
}

// none is the list beside an error.
func none() api.List { return api.List{} }

// example returns the list of the document's examples.
func example() api.List {
	return api.List{Number: 7, Priority: 5, Cues: cues{plain("1", ""), plain("2.5", "1"), plain("3", "4")}}
}

// scene returns a list with cues that have something of everything, with two links to one cue, and with one to itself.
func scene() api.List {
	back := full("12")
	back.Link = "2"
	return api.List{Number: 3, Priority: 9, Cues: cues{plain("0.5", "2"), full("2"), plain("10", "10"), plain("10.01", "5"), back, plain("9999.999", "12")}}
}

// many returns a list of cues with the numbers from 1 on.
func many(n int) api.List {
	l := of()
	for i := range n {
		l.Cues = append(l.Cues, plain(strconv.Itoa(i+1), ""))
	}
	return l
}

// with returns a list with other cues.
func with(l api.List, c ...api.Cue) api.List {
	l.Cues = c
	return l
}

// equal reports whether two lists are equal, without cuelist.Same.
func equal(a, b api.List) bool {
	if len(a.Cues) != len(b.Cues) || a.Number != b.Number || a.Priority != b.Priority {
		return false
	}
	for i, c := range a.Cues {
		if !cue.Same(c, b.Cues[i]) {
			return false
		}
	}
	return true
}

func TestFind(t *testing.T) {
	for _, l := range []api.List{example(), scene(), many(api.MaxCues)} {
		for i, c := range l.Cues {
			if got, found, e := cuelist.Find(l, c.Number); got != i || !found || e != api.OK {
				t.Errorf("Find(%v, %q): got %d, %t, %d, want %d", l, c.Number, got, found, e, i)
			}
		}
	}
	for _, l := range []api.List{example(), scene(), of()} {
		for _, number := range []string{"0.001", "1.001", "2.499", "4", "9", "11", "100", "9999", "9999.998"} {
			if got, found, e := cuelist.Find(l, number); got != 0 || found || e != api.OK {
				t.Errorf("Find(%v, %q): got %d, %t, %d", l, number, got, found, e)
			}
			if got, found, e := cuelist.Drop(l, number); !equal(got, l) || found || e != api.OK {
				t.Errorf("Drop(%v, %q): got %v, %t, %d", l, number, got, found, e)
			}
		}
	}
}

func TestPut(t *testing.T) {
	l, c := scene(), scene().Cues
	filled := many(api.MaxCues)
	for _, test := range []struct {
		l    api.List
		c    api.Cue
		want api.List
	}{
		{of(), full("5"), of(full("5"))}, {example(), plain("2", "3"), with(example(), plain("1", ""), plain("2", "3"), plain("2.5", "1"), plain("3", "4"))}, {example(), full("2.5"), with(example(), plain("1", ""), full("2.5"), plain("3", "4"))},
		{l, full("0.499"), with(l, full("0.499"), c[0], c[1], c[2], c[3], c[4], c[5])}, {l, full("0.501"), with(l, c[0], full("0.501"), c[1], c[2], c[3], c[4], c[5])}, {l, full("10.009"), with(l, c[0], c[1], c[2], full("10.009"), c[3], c[4], c[5])}, {l, full("100"), with(l, c[0], c[1], c[2], c[3], c[4], full("100"), c[5])},
		{with(l, c[:5]...), c[5], l}, {with(l, c[1:]...), c[0], l}, {l, c[3], l}, {l, full("0.5"), with(l, full("0.5"), c[1], c[2], c[3], c[4], c[5])}, {l, plain("2", "5"), with(l, c[0], plain("2", "5"), c[2], c[3], c[4], c[5])}, {l, full("9999.999"), with(l, c[0], c[1], c[2], c[3], c[4], full("9999.999"))},
		{filled, full("1"), with(filled, append(cues{full("1")}, filled.Cues[1:]...)...)}, {filled, full("64"), with(filled, append(slices.Clone(filled.Cues[:63]), full("64"))...)}, {with(filled, filled.Cues[:63]...), plain("64", ""), filled}, {with(filled, filled.Cues[1:]...), plain("1", ""), filled},
	} {
		if got, e := cuelist.Put(test.l, test.c); !equal(got, test.want) || e != api.OK {
			t.Errorf("Put(%v, %v): got %v, %d, want %v", test.l, test.c, got, e, test.want)
		}
	}
}

// TestDrop drops each cue. Links to it remain.
func TestDrop(t *testing.T) {
	for _, l := range []api.List{example(), scene(), of(full("1")), many(api.MaxCues)} {
		for i, c := range l.Cues {
			want := with(l, slices.Concat(l.Cues[:i], l.Cues[i+1:])...)
			if got, found, e := cuelist.Drop(l, c.Number); !equal(got, want) || !found || e != api.OK {
				t.Errorf("Drop(%v, %q): got %v, %t, %d, want %v", l, c.Number, got, found, e, want)
			}
		}
	}
}

func TestFirstAndLast(t *testing.T) {
	for _, test := range []struct {
		l           api.List
		first, last string
	}{{example(), "1", "3"}, {scene(), "0.5", "9999.999"}, {of(plain("0.001", "7")), "0.001", "0.001"}, {many(api.MaxCues), "1", "64"}, {of(), "", ""}, {with(scene(), cues{}...), "", ""}} {
		if got, found, e := cuelist.First(test.l); got != test.first || found != (test.first != "") || e != api.OK {
			t.Errorf("First(%v): got %q, %t, %d, want %q", test.l, got, found, e, test.first)
		}
		if got, found, e := cuelist.Last(test.l); got != test.last || found != (test.last != "") || e != api.OK {
			t.Errorf("Last(%v): got %q, %t, %d, want %q", test.l, got, found, e, test.last)
		}
	}
}

func TestAfterAndBefore(t *testing.T) {
	for _, test := range []struct {
		l                     api.List
		number, after, before string
	}{
		{example(), "1", "2.5", ""}, {example(), "2", "2.5", "1"}, {example(), "2.5", "3", "1"}, {example(), "3", "", "2.5"}, {example(), "10", "", "3"}, {example(), "0.5", "1", ""},
		{scene(), "0.001", "0.5", ""}, {scene(), "0.499", "0.5", ""}, {scene(), "0.5", "2", ""}, {scene(), "0.501", "2", "0.5"}, {scene(), "2", "10", "0.5"}, {scene(), "9", "10", "2"}, {scene(), "10", "10.01", "2"}, {scene(), "10.001", "10.01", "10"}, {scene(), "10.1", "12", "10.01"}, {scene(), "100", "9999.999", "12"}, {scene(), "9999", "9999.999", "12"}, {scene(), "9999.999", "", "12"},
		{of(), "1", "", ""}, {of(full("1")), "1", "", ""}, {of(full("1")), "0.999", "1", ""}, {of(full("1")), "1.001", "", "1"}, {many(api.MaxCues), "8.5", "9", "8"}, {many(api.MaxCues), "64", "", "63"},
	} {
		if got, found, e := cuelist.After(test.l, test.number); got != test.after || found != (test.after != "") || e != api.OK {
			t.Errorf("After(%v, %q): got %q, %t, %d, want %q", test.l, test.number, got, found, e, test.after)
		}
		if got, found, e := cuelist.Before(test.l, test.number); got != test.before || found != (test.before != "") || e != api.OK {
			t.Errorf("Before(%v, %q): got %q, %t, %d, want %q", test.l, test.number, got, found, e, test.before)
		}
	}
}

// linked returns a cue with another number and another link.
func linked(c api.Cue, number, link string) api.Cue {
	c.Number, c.Link = number, link
	return c
}

func TestRenumber(t *testing.T) {
	l, c := scene(), scene().Cues
	for _, test := range []struct {
		l        api.List
		from, to string
		want     api.List
	}{
		{example(), "1", "5", with(example(), plain("2.5", "5"), plain("3", "4"), plain("5", ""))}, {example(), "1", "0.5", with(example(), plain("0.5", ""), plain("2.5", "0.5"), plain("3", "4"))}, {example(), "3", "2", with(example(), plain("1", ""), plain("2", "4"), plain("2.5", "1"))},
		// A link that was open leads to the cue now.
		{example(), "1", "4", with(example(), plain("2.5", "4"), plain("3", "4"), plain("4", ""))}, {example(), "3", "4", with(example(), plain("1", ""), plain("2.5", "1"), plain("4", "4"))},
		{l, "2", "3", with(l, linked(c[0], "0.5", "3"), linked(c[1], "3", "3"), c[2], c[3], linked(c[4], "12", "3"), c[5])}, {l, "2", "11", with(l, linked(c[0], "0.5", "11"), c[2], c[3], linked(c[1], "11", "11"), linked(c[4], "12", "11"), c[5])}, {l, "10", "0.001", with(l, plain("0.001", "0.001"), c[0], c[1], c[3], c[4], c[5])},
		{l, "9999.999", "0.4", with(l, plain("0.4", "12"), c[0], c[1], c[2], c[3], c[4])}, {l, "0.5", "9999", with(l, c[1], c[2], c[3], c[4], plain("9999", "2"), c[5])}, {l, "12", "1", with(l, c[0], linked(c[4], "1", "2"), c[1], c[2], c[3], plain("9999.999", "1"))},
		{of(plain("1", "1")), "1", "2", of(plain("2", "2"))}, {of(plain("1", "2")), "1", "2", of(plain("2", "2"))}, {many(api.MaxCues), "64", "0.5", with(many(api.MaxCues), append(cues{plain("0.5", "")}, many(63).Cues...)...)},
	} {
		if got, e := cuelist.Renumber(test.l, test.from, test.to); !equal(got, test.want) || e != api.OK {
			t.Errorf("Renumber(%v, %q, %q): got %v, %d, want %v", test.l, test.from, test.to, got, e, test.want)
		}
	}
	for _, l := range []api.List{example(), scene(), many(api.MaxCues)} {
		for _, c := range l.Cues {
			if got, e := cuelist.Renumber(l, c.Number, c.Number); !equal(got, l) || e != api.OK {
				t.Errorf("Renumber(%v, %q, %q): got %v, %d", l, c.Number, c.Number, got, e)
			}
		}
	}
}

func TestWrongRenumbers(t *testing.T) {
	for _, test := range []struct {
		l        api.List
		from, to string
		want     api.Errno
	}{
		{example(), "1", "3", api.ErrTwice}, {example(), "3", "1", api.ErrTwice}, {example(), "2.5", "3", api.ErrTwice}, {scene(), "0.5", "9999.999", api.ErrTwice}, {many(api.MaxCues), "1", "64", api.ErrTwice},
		{example(), "2", "5", api.ErrNone}, {example(), "4", "5", api.ErrNone}, {of(), "1", "2", api.ErrNone}, {of(), "1", "1", api.ErrNone}, {example(), "2", "2", api.ErrNone}, {scene(), "10.1", "11", api.ErrNone},
		// The first error counts.
		{example(), "2", "3", api.ErrNone}, {example(), "4", "1", api.ErrNone}, {scene(), "5", "12", api.ErrNone},
	} {
		if got, e := cuelist.Renumber(test.l, test.from, test.to); !equal(got, none()) || e != test.want {
			t.Errorf("Renumber(%v, %q, %q): got %v, %d, want %d", test.l, test.from, test.to, got, e, test.want)
		}
	}
}

func TestOpen(t *testing.T) {
	for _, test := range []struct {
		l    api.List
		want numbers
	}{
		{example(), numbers{"3"}}, {scene(), numbers{"10.01"}}, {of(), nil}, {many(api.MaxCues), nil}, {of(full("1")), nil}, {of(plain("1", "1.001"), plain("2", "1"), plain("3", "4"), plain("4", "3.5")), numbers{"1", "4"}},
		{of(plain("2", "10"), plain("9", "2"), plain("10", "9"), plain("100", "99")), numbers{"100"}}, {with(scene(), scene().Cues[2:]...), numbers{"10.01", "12"}}, {with(scene(), scene().Cues[0]), numbers{"0.5"}},
	} {
		if got, e := cuelist.Open(test.l); !slices.Equal(got, test.want) || e != api.OK {
			t.Errorf("Open(%v): got %v, %d, want %v", test.l, got, e, test.want)
		}
	}
}

func TestRefers(t *testing.T) {
	turning := func(number string, palettes ...int) api.Cue {
		c := plain(number, "")
		for i, n := range palettes {
			c.Moves = append(c.Moves, move(i+1, n, 1))
		}
		return c
	}
	l := of(turning("1", 4), turning("2"), turning("3", 5, 4), turning("4", -1, 0), turning("10", api.MaxNumber, 4, 4), turning("11", 1, -1, 5, 0))
	l.Cues[3].Moves[1].Value.Level = 4
	for _, test := range []struct {
		palette int
		want    numbers
	}{{4, numbers{"1", "3", "10"}}, {5, numbers{"3", "11"}}, {1, numbers{"11"}}, {api.MaxNumber, numbers{"10"}}, {2, nil}, {6, nil}, {0, nil}, {-1, nil}, {-2, nil}, {api.MaxNumber + 1, nil}, {4 + 1<<32, nil}, {math.MinInt, nil}, {math.MaxInt, nil}} {
		if got, e := cuelist.Refers(l, test.palette); !slices.Equal(got, test.want) || e != api.OK {
			t.Errorf("Refers(%v, %d): got %v, %d, want %v", l, test.palette, got, e, test.want)
		}
		if got, e := cuelist.Refers(of(), test.palette); len(got) != 0 || e != api.OK {
			t.Errorf("Refers of no cues to %d: got %v, %d", test.palette, got, e)
		}
	}
}

func TestSame(t *testing.T) {
	wrong := api.List{Number: -1, Priority: math.MaxInt, Cues: append(make(cues, 99), full("x"))}
	for _, l := range []api.List{none(), example(), scene(), wrong} {
		for name, change := range map[string]func(l *api.List){
			"number": func(l *api.List) { l.Number++ }, "priority": func(l *api.List) { l.Priority-- }, "a cue more": func(l *api.List) { l.Cues = append(slices.Clone(l.Cues), api.Cue{}) }, "the first cue twice": func(l *api.List) { l.Cues = append(slices.Clone(l.Cues), plain("1", "")) },
		} {
			other := l
			change(&other)
			if cuelist.Same(l, other) || cuelist.Same(other, l) {
				t.Errorf("%v is the same with another %s", l, name)
			}
		}
		other := with(l, append(cues{}, l.Cues...)...)
		for i, c := range other.Cues {
			other.Cues[i].Moves, other.Cues[i].Parts = append([]api.Move{}, c.Moves...), append([]api.Timing{}, c.Parts...)
		}
		if !cuelist.Same(l, other) || !cuelist.Same(other, l) {
			t.Errorf("%v is not the same", l)
		}
	}
	if cuelist.Same(example(), scene()) || cuelist.Same(none(), example()) || cuelist.Same(wrong, none()) || cuelist.Same(of(plain("1", ""), plain("2", "")), of(plain("2", ""), plain("1", ""))) {
		t.Errorf("different lists are the same")
	}
}

// TestSameComparesAllOfCues changes each field of each cue.
func TestSameComparesAllOfCues(t *testing.T) {
	for i := range scene().Cues {
		for name, change := range map[string]func(c *api.Cue){
			"number": func(c *api.Cue) { c.Number += "1" }, "label": func(c *api.Cue) { c.Label += " " }, "block": func(c *api.Cue) { c.Block = !c.Block }, "mark": func(c *api.Cue) { c.Mark = !c.Mark },
			"follow": func(c *api.Cue) { c.Follow++ }, "link": func(c *api.Cue) { c.Link += "1" }, "loops": func(c *api.Cue) { c.Loops-- }, "delay": func(c *api.Cue) { c.Parts[0].Delay++ },
			"a move more": func(c *api.Cue) { c.Moves = append(c.Moves, move(9, 9, 1)) }, "a part more": func(c *api.Cue) { c.Parts = append(c.Parts, api.Timing{}) },
		} {
			other := scene()
			change(&other.Cues[i])
			if cuelist.Same(scene(), other) || cuelist.Same(other, scene()) {
				t.Errorf("%v is the same with another %s of cue %d", scene(), name, i)
			}
		}
	}
}
