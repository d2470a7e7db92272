package cue_test

import (
	"math"
	"slices"
	"testing"

	"luminaire/api"
	"luminaire/cue"
)

type (
	moves   = []api.Move
	entries = []api.Entry
	params  = []api.Param
	parts   = []api.Timing
)

func param(channel, attr int) api.Param { return api.Param{Channel: channel, Attr: attr} }

// move returns a move to a level.
func move(channel, attr, level, part int) api.Move {
	return api.Move{Param: param(channel, attr), Value: api.Value{Level: level}, Part: part}
}

// turn returns a move to a palette, or home.
func turn(channel, attr, palette, part int) api.Move {
	return api.Move{Param: param(channel, attr), Value: api.Value{Palette: palette}, Part: part}
}

// all returns times of which each one is the same, but no delay.
func all(time int) api.Timing {
	return api.Timing{Up: time, Down: time, Position: time, Colour: time, Beam: time}
}

// none is the cue beside an error.
func none() api.Cue { return api.Cue{} }

// fadeIn returns the cue of the document's examples.
func fadeIn() api.Cue {
	return api.Cue{Number: "2", Moves: moves{move(1, api.AttrIntensity, api.MaxLevel, 1), move(1, api.AttrPan, 100, 2)}, Parts: parts{all(1000), all(3000)}, Follow: -1}
}

// scene returns the cue of most tests. Its second and third parts have no moves.
func scene() api.Cue {
	return api.Cue{
		Number: "12.5", Label: "Act 2, scene 1 (night)",
		Moves: moves{move(1, api.AttrIntensity, 5, 4), turn(1, api.AttrPan, 4, 1), turn(3, api.AttrRed, -1, 4), move(4, api.AttrIntensity, 0, 1), move(999, api.AttrFocus, api.MaxLevel, 4)},
		Parts: parts{all(10), all(20), {Up: 1, Down: 2, Position: 3, Colour: 4, Beam: 5, Delay: 6}, all(40)},
		Block: true, Mark: true, Follow: 400, Link: "0.5", Loops: 7,
	}
}

// with returns a cue with other moves.
func with(c api.Cue, l ...api.Move) api.Cue {
	c.Moves = l
	return c
}

// equal reports whether two cues are equal, without cue.Same.
func equal(a, b api.Cue) bool {
	if !slices.Equal(a.Moves, b.Moves) || !slices.Equal(a.Parts, b.Parts) {
		return false
	}
	return a.Number == b.Number && a.Label == b.Label && a.Block == b.Block && a.Mark == b.Mark && a.Follow == b.Follow && a.Link == b.Link && a.Loops == b.Loops
}

// many returns moves of all attributes of the channels from one on.
func many(first, n int) moves {
	l := make(moves, n)
	for i := range l {
		l[i] = move(first+i/api.Attrs, i%api.Attrs, i, 1+i%api.MaxParts)
	}
	return l
}

// outside returns ints that are not from one to another.
func outside(least, most int) []int {
	return []int{least - 1, least - 2, most + 1, most + 1<<32, least - 1<<32, math.MinInt, math.MaxInt}
}

func TestFind(t *testing.T) {
	for _, c := range []api.Cue{fadeIn(), scene(), with(scene(), many(1, api.MaxMoves)...)} {
		for i, m := range c.Moves {
			if got, found, e := cue.Find(c, m.Param); got != i || !found || e != api.OK {
				t.Errorf("Find(%v, %v): got %d, %t, %d, want %d", c, m.Param, got, found, e, i)
			}
		}
	}
	for _, c := range []api.Cue{scene(), with(scene())} {
		for _, p := range []api.Param{param(1, api.AttrTilt), param(1, api.AttrFocus), param(2, api.AttrIntensity), param(2, api.AttrPan), param(3, api.AttrTilt), param(999, api.AttrZoom), param(5, api.AttrFocus)} {
			if got, found, e := cue.Find(c, p); got != 0 || found || e != api.OK {
				t.Errorf("Find(%v, %v): got %d, %t, %d", c, p, got, found, e)
			}
		}
		for _, p := range wrongParams() {
			if got, found, e := cue.Find(c, p); got != 0 || found || e != api.ErrRange {
				t.Errorf("Find(%v, %v): got %d, %t, %d", c, p, got, found, e)
			}
		}
	}
}

// wrongParams returns pairs of ints that are no parameters.
func wrongParams() params {
	var l params
	for _, n := range outside(1, api.MaxChannel) {
		l = append(l, param(n, 0))
	}
	for _, n := range outside(0, api.Attrs-1) {
		l = append(l, param(1, n))
	}
	return l
}

func TestMerge(t *testing.T) {
	a, b := fadeIn().Moves, scene().Moves
	for _, test := range []struct{ a, b, want moves }{
		{nil, nil, nil}, {a, nil, a}, {nil, a, a}, {a, moves{}, a}, {a, a, a}, {b, b, b},
		{a, moves{move(1, api.AttrPan, 200, 1)}, moves{a[0], move(1, api.AttrPan, 200, 1)}}, {moves{move(1, api.AttrPan, 200, 1)}, a, a},
		{a, moves{move(2, api.AttrRed, 7, 3)}, moves{a[0], a[1], move(2, api.AttrRed, 7, 3)}}, {moves{move(2, api.AttrRed, 7, 3)}, a, moves{a[0], a[1], move(2, api.AttrRed, 7, 3)}},
		{a, b, b}, {b, a, moves{a[0], a[1], b[2], b[3], b[4]}},
		{b, moves{turn(1, api.AttrIntensity, 9, 2), move(1, api.AttrTilt, 8, 4), turn(999, api.AttrFocus, -1, 4)}, moves{turn(1, api.AttrIntensity, 9, 2), b[1], move(1, api.AttrTilt, 8, 4), b[2], b[3], turn(999, api.AttrFocus, -1, 4)}},
		{moves{move(5, 0, 1, 1)}, moves{move(3, 0, 2, 2), move(4, 0, 3, 3), move(5, 1, 4, 4), move(6, 0, 5, 1)}, moves{move(3, 0, 2, 2), move(4, 0, 3, 3), move(5, 0, 1, 1), move(5, 1, 4, 4), move(6, 0, 5, 1)}},
		{moves{turn(5, 0, 1, 1)}, moves{turn(5, 0, 1, 2)}, moves{turn(5, 0, 1, 2)}},
		{many(1, api.MaxMoves), many(1, api.MaxMoves), many(1, api.MaxMoves)}, {many(1, api.MaxMoves-1), many(1, api.MaxMoves)[api.MaxMoves-1:], many(1, api.MaxMoves)}, {many(1, 60), many(5, api.MaxMoves-60), slices.Concat(many(1, 60), many(5, api.MaxMoves-60))},
	} {
		if got, e := cue.Merge(test.a, test.b); !slices.Equal(got, test.want) || e != api.OK {
			t.Errorf("Merge(%v, %v): got %v, %d, want %v", test.a, test.b, got, e, test.want)
		}
	}
	for _, l := range [][2]moves{{many(1, api.MaxMoves), moves{move(999, 1, 1, 1)}}, {moves{move(999, 1, 1, 1)}, many(1, api.MaxMoves)}, {many(1, 100), many(2, 114)}, {many(1, api.MaxMoves), many(20, api.MaxMoves)}} {
		if got, e := cue.Merge(l[0], l[1]); len(got) != 0 || e != api.ErrMany {
			t.Errorf("Merge(%v, %v): got %v, %d", l[0], l[1], got, e)
		}
	}
}

// entry returns that of a move.
func entry(m api.Move) api.Entry { return api.Entry{Param: m.Param, Value: m.Value} }

// valuesOf returns the entries of moves.
func valuesOf(l moves) entries {
	var values entries
	for _, m := range l {
		values = append(values, entry(m))
	}
	return values
}

func TestSet(t *testing.T) {
	c, l := scene(), scene().Moves
	full := with(scene(), many(1, api.MaxMoves)...)
	for _, test := range []struct {
		c       api.Cue
		entries entries
		part    int
		want    api.Cue
	}{
		{fadeIn(), entries{entry(turn(2, api.AttrRed, 4, 1))}, 2, with(fadeIn(), append(fadeIn().Moves, turn(2, api.AttrRed, 4, 2))...)},
		{c, nil, 1, c}, {c, entries{}, 4, c}, {with(c), nil, 2, with(c)}, {c, entries{entry(l[0])}, 4, c},
		{c, entries{entry(l[0]), entry(l[1])}, 2, with(c, move(1, api.AttrIntensity, 5, 2), turn(1, api.AttrPan, 4, 2), l[2], l[3], l[4])},
		{c, entries{entry(turn(3, api.AttrRed, 8, 1)), entry(move(3, api.AttrGreen, 9, 1))}, 3, with(c, l[0], l[1], turn(3, api.AttrRed, 8, 3), move(3, api.AttrGreen, 9, 3), l[3], l[4])},
		{c, entries{entry(move(2, 0, 1, 1)), entry(turn(2, 1, -1, 1))}, 1, with(c, l[0], l[1], move(2, 0, 1, 1), turn(2, 1, -1, 1), l[2], l[3], l[4])},
		{full, nil, 1, full}, {full, entries{entry(move(1, 1, 7, 1))}, 4, with(full, append(moves{full.Moves[0], move(1, 1, 7, 4)}, full.Moves[2:]...)...)}, {with(full, full.Moves[1:]...), entries{entry(full.Moves[0])}, 1, full},
	} {
		if got, e := cue.Set(test.c, test.entries, test.part); !equal(got, test.want) || e != api.OK {
			t.Errorf("Set(%v, %v, %d): got %v, %d, want %v", test.c, test.entries, test.part, got, e, test.want)
		}
	}
}

func TestWrongSets(t *testing.T) {
	full := with(scene(), many(1, api.MaxMoves)...)
	right, wrong := entry(turn(2, api.AttrRed, 4, 1)), entry(turn(2, api.AttrRed, -2, 1))
	for _, test := range []struct {
		c       api.Cue
		entries entries
		part    int
		want    api.Errno
	}{
		{fadeIn(), entries{right}, 3, api.ErrNone}, {scene(), entries{right}, 5, api.ErrNone}, {scene(), entries{right}, 0, api.ErrNone}, {scene(), entries{right}, -1, api.ErrNone}, {scene(), nil, math.MinInt, api.ErrNone}, {scene(), nil, math.MaxInt, api.ErrNone}, {scene(), nil, 1 + 1<<32, api.ErrNone},
		{fadeIn(), entries{wrong}, 1, api.ErrRange}, {fadeIn(), entries{right, right}, 1, api.ErrOrder}, {fadeIn(), make(entries, api.MaxEvents+1), 1, api.ErrMany}, {fadeIn(), entries{{Param: param(0, 0)}}, 1, api.ErrRange}, {fadeIn(), entries{right, wrong}, 1, api.ErrRange},
		{full, entries{entry(move(999, 0, 0, 1))}, 1, api.ErrMany}, {full, entries{entry(full.Moves[0]), entry(move(999, 0, 0, 1))}, 4, api.ErrMany}, {with(full, many(1, 100)...), valuesOf(many(2, 114)), 1, api.ErrMany},
		{fadeIn(), valuesOf(many(1, api.MaxMoves+1)), 1, api.ErrMany}, {with(fadeIn()), valuesOf(many(1, api.MaxEvents)), 1, api.ErrMany},
		// The first error counts.
		{fadeIn(), entries{wrong}, 3, api.ErrRange}, {fadeIn(), entries{right, right}, 0, api.ErrOrder}, {full, entries{wrong}, 1, api.ErrRange}, {full, entries{right, right}, 5, api.ErrOrder}, {full, entries{entry(move(999, 0, 0, 1))}, 5, api.ErrNone}, {fadeIn(), valuesOf(many(1, api.MaxEvents)), 3, api.ErrNone}, {fadeIn(), make(entries, api.MaxEvents+1), 3, api.ErrMany},
	} {
		if got, e := cue.Set(test.c, test.entries, test.part); !equal(got, none()) || e != test.want {
			t.Errorf("Set(%.200v, %.200v, %d): got %v, %d, want %d", test.c, test.entries, test.part, got, e, test.want)
		}
	}
}

func TestDrop(t *testing.T) {
	c, l := scene(), scene().Moves
	for _, test := range []struct {
		c      api.Cue
		params params
		want   api.Cue
	}{
		{fadeIn(), params{param(1, api.AttrPan)}, with(fadeIn(), fadeIn().Moves[0])}, {fadeIn(), params{param(1, api.AttrIntensity)}, with(fadeIn(), fadeIn().Moves[1])},
		{c, nil, c}, {c, params{}, c}, {c, params{param(2, api.AttrRed), param(9, 0)}, c}, {with(c), params{param(1, 0)}, with(c)},
		// The parameters may be in any order, and there more than once.
		{c, params{l[4].Param, l[0].Param}, with(c, l[1:4]...)}, {c, params{l[2].Param, param(8, 8), l[2].Param, l[1].Param}, with(c, l[0], l[3], l[4])}, {c, params{l[3].Param, l[1].Param, l[4].Param, l[0].Param, l[2].Param}, with(c)},
		{with(c, many(1, api.MaxMoves)...), slices.Repeat(params{param(1, 0)}, api.MaxEvents), with(c, many(1, api.MaxMoves)[1:]...)},
	} {
		if got, e := cue.Drop(test.c, test.params); !equal(got, test.want) || e != api.OK {
			t.Errorf("Drop(%v, %.200v): got %v, %d, want %v", test.c, test.params, got, e, test.want)
		}
	}
	for _, p := range append(wrongParams(), api.Param{}) {
		for _, l := range []params{{p}, {param(1, 1), p}, {p, param(1, 1)}, slices.Concat(slices.Repeat(params{param(1, 0)}, api.MaxEvents-1), params{p})} {
			if got, e := cue.Drop(c, l); !equal(got, none()) || e != api.ErrRange {
				t.Errorf("Drop of %.200v: got %v, %d", l, got, e)
			}
		}
	}
	for _, l := range []params{slices.Repeat(params{param(1, 0)}, api.MaxEvents+1), make(params, api.MaxEvents+1)} {
		if got, e := cue.Drop(c, l); !equal(got, none()) || e != api.ErrMany {
			t.Errorf("Drop of %.200v: got %v, %d", l, got, e)
		}
	}
}

func TestEntries(t *testing.T) {
	for _, test := range []struct {
		c    api.Cue
		want entries
	}{
		{with(scene()), nil}, {fadeIn(), entries{entry(move(1, api.AttrIntensity, api.MaxLevel, 0)), entry(move(1, api.AttrPan, 100, 0))}},
		{scene(), entries{entry(move(1, api.AttrIntensity, 5, 0)), entry(turn(1, api.AttrPan, 4, 0)), entry(turn(3, api.AttrRed, -1, 0)), entry(move(4, api.AttrIntensity, 0, 0)), entry(move(999, api.AttrFocus, api.MaxLevel, 0))}},
		{with(scene(), many(1, api.MaxMoves)...), valuesOf(many(1, api.MaxMoves))},
	} {
		if got, e := cue.Entries(test.c); !slices.Equal(got, test.want) || e != api.OK {
			t.Errorf("Entries(%v): got %v, %d, want %v", test.c, got, e, test.want)
		}
	}
}

func TestSplit(t *testing.T) {
	l := scene().Moves
	for _, test := range []struct {
		c    api.Cue
		part int
		want moves
	}{
		{fadeIn(), 1, moves{move(1, api.AttrIntensity, api.MaxLevel, 1)}}, {fadeIn(), 2, moves{move(1, api.AttrPan, 100, 2)}}, {with(fadeIn()), 1, nil}, {with(fadeIn()), 2, nil},
		{scene(), 1, moves{l[1], l[3]}}, {scene(), 2, nil}, {scene(), 3, nil}, {scene(), 4, moves{l[0], l[2], l[4]}},
	} {
		if got, e := cue.Split(test.c, test.part); !slices.Equal(got, test.want) || e != api.OK {
			t.Errorf("Split(%v, %d): got %v, %d, want %v", test.c, test.part, got, e, test.want)
		}
	}
	for _, n := range outside(1, 2) {
		if got, e := cue.Split(fadeIn(), n); len(got) != 0 || e != api.ErrNone {
			t.Errorf("Split into part %d of 2: got %v, %d", n, got, e)
		}
	}
	for _, n := range outside(1, 4) {
		if got, e := cue.Split(scene(), n); len(got) != 0 || e != api.ErrNone {
			t.Errorf("Split into part %d of 4: got %v, %d", n, got, e)
		}
	}
}

func TestPack(t *testing.T) {
	packed, l := scene(), scene().Moves
	packed.Parts = parts{all(10), all(40)}
	packed.Moves = moves{move(1, api.AttrIntensity, 5, 2), l[1], turn(3, api.AttrRed, -1, 2), l[3], move(999, api.AttrFocus, api.MaxLevel, 2)}
	if got, e := cue.Pack(scene()); !equal(got, packed) || e != api.OK {
		t.Errorf("Pack(%v): got %v, %d, want %v", scene(), got, e, packed)
	}
	for _, test := range []struct {
		parts, want []int // the parts of moves before and behind it
		times       []int // of the parts behind it: those of the first part are 1, of the second one 2, ..
	}{
		{nil, nil, []int{1}}, {[]int{1}, []int{1}, []int{1}}, {[]int{2}, []int{2}, []int{1, 2}}, {[]int{3}, []int{2}, []int{1, 3}}, {[]int{4}, []int{2}, []int{1, 4}}, {[]int{4, 4}, []int{2, 2}, []int{1, 4}},
		{[]int{1, 2}, []int{1, 2}, []int{1, 2}}, {[]int{3, 1}, []int{2, 1}, []int{1, 3}}, {[]int{3, 2}, []int{3, 2}, []int{1, 2, 3}}, {[]int{2, 4}, []int{2, 3}, []int{1, 2, 4}}, {[]int{4, 3}, []int{3, 2}, []int{1, 3, 4}}, {[]int{4, 1, 3}, []int{3, 1, 2}, []int{1, 3, 4}},
		{[]int{2, 3, 4}, []int{2, 3, 4}, []int{1, 2, 3, 4}}, {[]int{4, 3, 2, 1}, []int{4, 3, 2, 1}, []int{1, 2, 3, 4}},
	} {
		c, want := none(), none()
		c.Number, want.Number, c.Follow, want.Follow = "1", "1", -1, -1
		c.Parts = parts{all(1), all(2), all(3), all(4)}
		for i, part := range test.parts {
			c.Moves, want.Moves = append(c.Moves, move(5, i, 9, part)), append(want.Moves, move(5, i, 9, test.want[i]))
		}
		for _, time := range test.times {
			want.Parts = append(want.Parts, all(time))
		}
		for _, x := range []api.Cue{c, want} {
			if got, e := cue.Pack(x); !equal(got, want) || e != api.OK {
				t.Errorf("Pack(%v): got %v, %d, want %v", x, got, e, want)
			}
		}
	}
}

func TestExamples(t *testing.T) {
	c := fadeIn()
	merged, e := cue.Set(c, entries{entry(move(1, api.AttrPan, 200, 1))}, 1)
	if want := with(c, c.Moves[0], move(1, api.AttrPan, 200, 1)); !equal(merged, want) || e != api.OK {
		t.Errorf("the merged cue is %v, %d, want %v", merged, e, want)
	}
	packed, e := cue.Pack(merged)
	if want := (api.Cue{Number: "2", Moves: merged.Moves, Parts: parts{all(1000)}, Follow: -1}); !equal(packed, want) || e != api.OK {
		t.Errorf("the packed cue is %v, %d, want %v", packed, e, want)
	}
	less, e := cue.Drop(c, params{param(1, api.AttrIntensity)})
	if want := with(c, c.Moves[1]); !equal(less, want) || e != api.OK {
		t.Errorf("the cue without its intensity is %v, %d, want %v", less, e, want)
	}
	if packed, e = cue.Pack(less); !equal(packed, less) || e != api.OK {
		t.Errorf("packed, it is %v, %d, want %v", packed, e, less)
	}
}

func TestSame(t *testing.T) {
	wrong := api.Cue{Number: "?", Label: "\"\x00", Moves: make(moves, 300), Parts: make(parts, 9), Follow: math.MinInt, Link: "?", Loops: math.MaxInt}
	for _, c := range []api.Cue{none(), fadeIn(), scene(), wrong} {
		for name, change := range map[string]func(c *api.Cue){
			"number": func(c *api.Cue) { c.Number += "1" }, "label": func(c *api.Cue) { c.Label += " " }, "block": func(c *api.Cue) { c.Block = !c.Block }, "mark": func(c *api.Cue) { c.Mark = !c.Mark },
			"follow": func(c *api.Cue) { c.Follow++ }, "link": func(c *api.Cue) { c.Link += "1" }, "loops": func(c *api.Cue) { c.Loops-- },
			"a move more": func(c *api.Cue) { c.Moves = append(slices.Clone(c.Moves), api.Move{}) }, "a part more": func(c *api.Cue) { c.Parts = append(slices.Clone(c.Parts), api.Timing{}) },
		} {
			other := c
			change(&other)
			if cue.Same(c, other) || cue.Same(other, c) {
				t.Errorf("%v is the same with another %s", c, name)
			}
		}
		other := c
		other.Moves, other.Parts = append(moves{}, c.Moves...), append(parts{}, c.Parts...)
		if !cue.Same(c, other) || !cue.Same(other, c) {
			t.Errorf("%v is not the same", c)
		}
	}
	if cue.Same(fadeIn(), scene()) || cue.Same(none(), fadeIn()) || cue.Same(wrong, none()) {
		t.Errorf("different cues are the same")
	}
}

// TestSameComparesAllOfMovesAndParts changes each int of the moves and the parts.
func TestSameComparesAllOfMovesAndParts(t *testing.T) {
	for i := range scene().Moves {
		for n, change := range []func(m *api.Move){
			func(m *api.Move) { m.Param.Channel++ }, func(m *api.Move) { m.Param.Attr++ }, func(m *api.Move) { m.Value.Palette-- }, func(m *api.Move) { m.Value.Level++ }, func(m *api.Move) { m.Part-- },
		} {
			other := scene()
			change(&other.Moves[i])
			if cue.Same(scene(), other) || cue.Same(other, scene()) {
				t.Errorf("%v is the same with change %d of move %d", scene(), n, i)
			}
		}
	}
	for i := range scene().Parts {
		for n, change := range timesOf() {
			other := scene()
			*change(&other.Parts[i]) += 1 << 32
			if cue.Same(scene(), other) || cue.Same(other, scene()) {
				t.Errorf("%v is the same with another time %d of part %d", scene(), n, i)
			}
		}
	}
}

// timesOf returns functions that return the times of a part.
func timesOf() []func(t *api.Timing) *int {
	return []func(t *api.Timing) *int{
		func(t *api.Timing) *int { return &t.Up }, func(t *api.Timing) *int { return &t.Down }, func(t *api.Timing) *int { return &t.Position },
		func(t *api.Timing) *int { return &t.Colour }, func(t *api.Timing) *int { return &t.Beam }, func(t *api.Timing) *int { return &t.Delay },
	}
}
