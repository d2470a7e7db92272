package cue_test

import (
	"slices"
	"strings"
	"testing"

	"luminaire/api"
	"luminaire/cue"
)

func TestRightMoves(t *testing.T) {
	for name, l := range map[string]moves{
		"none": nil, "empty": {}, "those of a cue": scene().Moves, "as many as possible": many(1, api.MaxMoves), "first and last": {turn(1, 0, 1, 1), turn(api.MaxChannel, api.Attrs-1, api.MaxNumber, api.MaxParts)},
		"the same values": {move(1, 1, 9, 2), move(2, 0, 9, 2), move(2, 1, 9, 1)},
	} {
		if e := cue.Moves(l); e != api.OK {
			t.Errorf("Moves, %s: got %d", name, e)
		}
		if e := cue.Check(with(scene(), l...)); e != api.OK {
			t.Errorf("Check with moves, %s: got %d", name, e)
		}
	}
}

// wrongMoves is a list of moves with its error.
type wrongMoves struct {
	l    moves
	want api.Errno
}

// wrongLists returns wrong lists of moves, among them those with two errors of which the first one counts.
func wrongLists() []wrongMoves {
	right, none := move(5, 5, 5, 2), move(5, 6, 5, 0)
	l := []wrongMoves{
		{many(1, api.MaxMoves+1), api.ErrMany}, {make(moves, api.MaxMoves+1), api.ErrMany}, {make(moves, api.MaxMoves), api.ErrRange}, {slices.Repeat(moves{right}, api.MaxMoves), api.ErrOrder},
		{moves{right, right}, api.ErrOrder}, {moves{right, move(5, 5, 6, 3)}, api.ErrOrder}, {moves{right, move(5, 4, 6, 3)}, api.ErrOrder}, {moves{right, move(4, 6, 6, 3)}, api.ErrOrder}, {moves{move(1, 0, 0, 1), right, move(7, 0, 0, 1), move(6, 14, 9, 4)}, api.ErrOrder},
		{moves{right, right, none}, api.ErrOrder}, {moves{right, none, right}, api.ErrRange}, {moves{right, move(5, 5, 5, 0)}, api.ErrRange}, {moves{right, move(4, 0, -1, 1)}, api.ErrRange}, {moves{right, move(0, 0, 0, 1)}, api.ErrRange}, {moves{right, move(4, 15, 0, 1)}, api.ErrRange},
		{moves{{Param: param(1, 0), Value: api.Value{Palette: 1, Level: 1}, Part: 1}}, api.ErrRange}, {moves{{Param: param(1, 0), Value: api.Value{Palette: -1, Level: 1}, Part: 1}}, api.ErrRange},
	}
	add := func(m api.Move) {
		l = append(l, wrongMoves{moves{m}, api.ErrRange}, wrongMoves{moves{move(1, 0, 1, 1), m}, api.ErrRange})
	}
	for _, p := range wrongParams() {
		add(move(p.Channel, p.Attr, 1, 1))
	}
	for _, n := range outside(0, api.MaxLevel) {
		add(move(6, 1, n, 1))
	}
	for _, n := range outside(-1, api.MaxNumber) {
		add(turn(6, 1, n, 1))
	}
	for _, n := range outside(1, api.MaxParts) {
		add(move(6, 1, 1, n))
	}
	return l
}

func TestWrongMoves(t *testing.T) {
	for _, test := range wrongLists() {
		if e := cue.Moves(test.l); e != test.want {
			t.Errorf("Moves(%.200v): got %d, want %d", test.l, e, test.want)
		}
		if e := cue.Check(with(scene(), test.l...)); e != test.want {
			t.Errorf("Check with %.200v: got %d, want %d", test.l, e, test.want)
		}
		for _, right := range []moves{nil, scene().Moves, many(1, api.MaxMoves), test.l} {
			for _, l := range [][2]moves{{test.l, right}, {right, test.l}} {
				if got, e := cue.Merge(l[0], l[1]); len(got) != 0 || e != test.want {
					t.Errorf("Merge(%.200v, %.200v): got %v, %d, want %d", l[0], l[1], got, e, test.want)
				}
			}
		}
		for _, other := range []wrongMoves{{moves{{}}, api.ErrRange}, {make(moves, api.MaxMoves+1), api.ErrMany}, {moves{move(2, 0, 0, 1), move(1, 0, 0, 1)}, api.ErrOrder}} {
			if got, e := cue.Merge(test.l, other.l); len(got) != 0 || e != test.want {
				t.Errorf("Merge(%.200v, %.200v): got %v, %d, want %d", test.l, other.l, got, e, test.want)
			}
			if got, e := cue.Merge(other.l, test.l); len(got) != 0 || e != other.want {
				t.Errorf("Merge(%.200v, %.200v): got %v, %d, want %d", other.l, test.l, got, e, other.want)
			}
		}
	}
}

func TestRightCues(t *testing.T) {
	for name, change := range map[string]func(c *api.Cue){
		"as it is": func(c *api.Cue) {}, "the first number": func(c *api.Cue) { c.Number = "0.001" }, "the last number": func(c *api.Cue) { c.Number = "9999.999" },
		"no label": func(c *api.Cue) { c.Label = "" }, "a long label": func(c *api.Cue) { c.Label = strings.Repeat("~", api.MaxName) }, "a blank label": func(c *api.Cue) { c.Label = " " },
		"no moves": func(c *api.Cue) { c.Moves = nil }, "one part": func(c *api.Cue) { c.Moves, c.Parts = nil, parts{{}} },
		"waiting": func(c *api.Cue) { c.Follow = -1 }, "the shortest time": func(c *api.Cue) { c.Follow = api.FrameTime }, "the longest time": func(c *api.Cue) { c.Follow = api.MaxTime },
		"no link": func(c *api.Cue) { c.Link, c.Loops = "", 0 }, "a link to itself": func(c *api.Cue) { c.Link = c.Number }, "always": func(c *api.Cue) { c.Loops = 0 }, "once": func(c *api.Cue) { c.Loops = 1 }, "most often": func(c *api.Cue) { c.Loops = 100 },
		"no block": func(c *api.Cue) { c.Block = false }, "no mark": func(c *api.Cue) { c.Mark = false },
	} {
		c := scene()
		change(&c)
		if e := cue.Check(c); e != api.OK {
			t.Errorf("Check, %s: got %d", name, e)
		}
	}
}

// fault makes a right cue wrong in one way.
type fault struct {
	name   string
	want   api.Errno
	change func(c *api.Cue)
}

// faults returns one fault or more of each kind, in the order in which the document lists the errors.
func faults() [][]fault {
	return [][]fault{
		{
			{"no number", api.ErrForm, func(c *api.Cue) { c.Number = "" }}, {"number with a zero", api.ErrForm, func(c *api.Cue) { c.Number = "1.10" }},
			{"number 0", api.ErrRange, func(c *api.Cue) { c.Number = "0" }}, {"great number", api.ErrRange, func(c *api.Cue) { c.Number = "10000" }},
		},
		{{"long label", api.ErrLong, func(c *api.Cue) { c.Label += strings.Repeat("x", api.MaxName+1-len(c.Label)) }}, {"very long label", api.ErrLong, func(c *api.Cue) { c.Label += strings.Repeat("\"", 1<<17) }}},
		{{"label", api.ErrForm, func(c *api.Cue) { c.Label = "a\"" }}, {"label of letters beyond ASCII", api.ErrForm, func(c *api.Cue) { c.Label = "\u00e9t\u00e9" }}},
		{{"many moves", api.ErrMany, func(c *api.Cue) { c.Moves = append(c.Moves, make(moves, api.MaxMoves+1-len(c.Moves))...) }}},
		{{"wrong move", api.ErrRange, func(c *api.Cue) { c.Moves[1].Param.Attr = -1 }}, {"order of moves", api.ErrOrder, func(c *api.Cue) { c.Moves[2].Param = param(1, 0) }}, {"wrong part", api.ErrRange, func(c *api.Cue) { c.Moves[1].Part = 5 }}},
		{{"no parts", api.ErrEmpty, func(c *api.Cue) { c.Parts = nil }}, {"empty parts", api.ErrEmpty, func(c *api.Cue) { c.Parts = parts{} }}, {"many parts", api.ErrMany, func(c *api.Cue) { c.Parts = append(c.Parts, make(parts, api.MaxParts+1-len(c.Parts))...) }}},
		{{"time of a part", api.ErrRange, func(c *api.Cue) { c.Parts[0].Colour = -1 }}},
		{{"no such part", api.ErrNone, func(c *api.Cue) { c.Parts = c.Parts[:3] }}, {"no such parts", api.ErrNone, func(c *api.Cue) { c.Parts = c.Parts[2:] }}},
		{{"follow", api.ErrRange, func(c *api.Cue) { c.Follow = api.FrameTime - 1 }}},
		{{"link", api.ErrForm, func(c *api.Cue) { c.Link = "x" }}, {"link to 0", api.ErrRange, func(c *api.Cue) { c.Link = "0" }}},
		{{"many loops", api.ErrRange, func(c *api.Cue) { c.Loops = 101 }}, {"many loops without link", api.ErrRange, func(c *api.Cue) { c.Link, c.Loops = "", 101 }}, {"few loops without link", api.ErrRange, func(c *api.Cue) { c.Link, c.Loops = "", -1 }}},
		{{"loops without link", api.ErrUse, func(c *api.Cue) { c.Link = "" }}},
	}
}

// TestOrderOfErrors makes cues wrong in one way, and in two ways at once, of which the first one is reported.
func TestOrderOfErrors(t *testing.T) {
	kinds := faults()
	for i, kind := range kinds {
		for _, f := range kind {
			c := scene()
			f.change(&c)
			checkWrong(t, c, f.want, f.name)
			for _, later := range slices.Concat(kinds[i+1:]...) {
				c := scene()
				later.change(&c)
				f.change(&c)
				checkWrong(t, c, f.want, f.name+", "+later.name)
			}
		}
	}
}

// checkWrong checks that all functions with a cue return its error first, and nothing beside it.
func checkWrong(t *testing.T, c api.Cue, want api.Errno, name string) {
	t.Helper()
	if e := cue.Check(c); e != want {
		t.Errorf("Check, %s: got %d, want %d", name, e, want)
	}
	for _, p := range []api.Param{param(1, 0), {}} {
		if i, found, e := cue.Find(c, p); i != 0 || found || e != want {
			t.Errorf("Find of %v, %s: got %d, %t, %d, want %d", p, name, i, found, e, want)
		}
	}
	for _, l := range []entries{nil, {{}}, valuesOf(scene().Moves), make(entries, api.MaxEvents+1)} {
		for _, part := range []int{1, 0, 5} {
			if got, e := cue.Set(c, l, part); !equal(got, none()) || e != want {
				t.Errorf("Set of %.200v in part %d, %s: got %v, %d, want %d", l, part, name, got, e, want)
			}
		}
	}
	for _, l := range []params{nil, {{}}, {param(1, 0)}, make(params, api.MaxEvents+1)} {
		if got, e := cue.Drop(c, l); !equal(got, none()) || e != want {
			t.Errorf("Drop of %.200v, %s: got %v, %d, want %d", l, name, got, e, want)
		}
	}
	for _, part := range []int{1, 0, 5} {
		if got, e := cue.Split(c, part); len(got) != 0 || e != want {
			t.Errorf("Split of part %d, %s: got %v, %d, want %d", part, name, got, e, want)
		}
	}
	if got, e := cue.Entries(c); len(got) != 0 || e != want {
		t.Errorf("Entries, %s: got %v, %d, want %d", name, got, e, want)
	}
	if got, e := cue.Pack(c); !equal(got, none()) || e != want {
		t.Errorf("Pack, %s: got %v, %d, want %d", name, got, e, want)
	}
}

func TestBytesOfLabels(t *testing.T) {
	for b := range 256 {
		want := api.ErrForm
		if b >= 32 && b <= 126 && b != '"' {
			want = api.OK
		}
		for _, around := range []string{"", "a"} {
			c := scene()
			c.Label = around + string([]byte{byte(b)}) + around
			if e := cue.Check(c); e != want {
				t.Errorf("Check with the label %q: got %d, want %d", c.Label, e, want)
			}
		}
	}
}

func TestTimesOfParts(t *testing.T) {
	for i := range scene().Parts {
		for n, time := range timesOf() {
			c := scene()
			for _, right := range []int{0, 1, api.MaxTime} {
				*time(&c.Parts[i]) = right
				if e := cue.Check(c); e != api.OK {
					t.Errorf("Check with the time %d of part %d at %d: got %d", n, i, right, e)
				}
			}
			for _, wrong := range outside(0, api.MaxTime) {
				*time(&c.Parts[i]) = wrong
				if e := cue.Check(c); e != api.ErrRange {
					t.Errorf("Check with the time %d of part %d at %d: got %d", n, i, wrong, e)
				}
			}
		}
	}
}

// TestPartsOfMoves checks cues with all numbers of parts, where one of three moves is in each of the parts that there may be.
func TestPartsOfMoves(t *testing.T) {
	for n := 1; n <= api.MaxParts; n++ {
		for part := 1; part <= api.MaxParts; part++ {
			want := api.OK
			if part > n {
				want = api.ErrNone
			}
			for i := range 3 {
				c := with(scene(), move(1, 0, 1, 1), move(1, 1, 1, 1), move(1, 2, 1, 1))
				c.Moves[i].Part = part
				c.Parts = make(parts, n)
				if e := cue.Check(c); e != want {
					t.Errorf("Check with %d parts, and a move in part %d: got %d, want %d", n, part, e, want)
				}
			}
		}
	}
}

func TestWhatComesNext(t *testing.T) {
	c := scene()
	for _, n := range append(outside(api.FrameTime, api.MaxTime), 0, 1, -3) {
		c.Follow = n
		want := api.ErrRange
		if n == -1 {
			want = api.OK
		}
		if e := cue.Check(c); e != want {
			t.Errorf("Check with the time %d to the next cue: got %d, want %d", n, e, want)
		}
	}
	c = scene()
	for _, n := range outside(0, 100) {
		c.Loops = n
		for _, link := range []string{"", "1"} {
			c.Link = link
			if e := cue.Check(c); e != api.ErrRange {
				t.Errorf("Check with %d loops and the link %q: got %d", n, link, e)
			}
		}
	}
	for _, n := range []int{1, 2, 100} {
		c.Link, c.Loops = "", n
		if e := cue.Check(c); e != api.ErrUse {
			t.Errorf("Check with %d loops and no link: got %d", n, e)
		}
	}
	for _, link := range []string{" ", "01", "1.", "-1", "1.0", "0", "1.0001", "12345"} {
		want := api.ErrForm
		if link == "0" || len(link) > 4 {
			want = api.ErrRange
		}
		for _, loops := range []int{0, 5, 101} {
			c.Link, c.Loops = link, loops
			if e := cue.Check(c); e != want {
				t.Errorf("Check with the link %q: got %d, want %d", link, e, want)
			}
		}
	}
}
