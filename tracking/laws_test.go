package tracking_test

import (
	"cmp"
	"math/rand"
	"slices"
	"strconv"
	"testing"

	"luminaire/api"
	"luminaire/cue"
	"luminaire/cuelist"
	"luminaire/number"
	"luminaire/parameter"
	"luminaire/tracking"
)

// compare compares parameters by their channels, and then by their attributes.
func compare(a, b api.Param) int {
	return cmp.Or(a.Channel-b.Channel, a.Attr-b.Attr)
}

// sampleMoves returns moves of some of six parameters, with few values.
func sampleMoves(r *rand.Rand) moves {
	var l moves
	for i := range 6 {
		if r.Intn(3) == 0 {
			l = append(l, api.Move{Param: param(1+i/3, i%3*7), Value: []api.Value{{Palette: -1}, {Palette: 1}, {}, {Level: 1}}[r.Intn(4)], Part: 1})
		}
	}
	return l
}

// sampleList returns a list of some cues, of which some have Block.
func sampleList(r *rand.Rand) api.List {
	l := api.List{Number: 1, Priority: r.Intn(api.MaxPriority + 1)}
	for i := range r.Intn(12) {
		c := api.Cue{Number: strconv.Itoa(3 * (i + 1)), Moves: sampleMoves(r), Parts: make([]api.Timing, 1), Block: r.Intn(4) == 0, Mark: r.Intn(2) == 0, Follow: -1}
		if r.Intn(3) == 0 {
			c.Link = strconv.Itoa(1 + r.Intn(20))
		}
		l.Cues = append(l.Cues, c)
	}
	return l
}

// state has the parameters that are not home.
type state map[api.Param]api.Value

// run changes a state by a cue, as the console would run it.
func (s state) run(c api.Cue) {
	if c.Block {
		clear(s)
	}
	for _, m := range c.Moves {
		s.set(api.Entry{Param: m.Param, Value: m.Value})
	}
}

func (s state) set(x api.Entry) {
	delete(s, x.Param)
	if x.Value != (api.Value{Palette: -1}) {
		s[x.Param] = x.Value
	}
}

// look returns the values of parameters.
func (s state) look(footprint params) entries {
	var l entries
	for _, p := range footprint {
		v, found := s[p]
		if !found {
			v = api.Value{Palette: -1}
		}
		l = append(l, api.Entry{Param: p, Value: v})
	}
	return l
}

// footprintOf returns the parameters that are moved, by a search through all that there may be in samples.
func footprintOf(l api.List) params {
	var moved params
	for channel := range 4 {
		for attr := range api.Attrs {
			p := param(channel, attr)
			if slices.ContainsFunc(l.Cues, func(c api.Cue) bool { return movedBy(c, p) }) {
				moved = append(moved, p)
			}
		}
	}
	return moved
}

// movedBy reports whether a cue moves a parameter.
func movedBy(c api.Cue, p api.Param) bool {
	return slices.ContainsFunc(c.Moves, func(m api.Move) bool { return m.Param == p })
}

// TestLooksAreThoseOfARun runs lists cue by cue, and compares the looks with the states that this leads to.
func TestLooksAreThoseOfARun(t *testing.T) {
	r := rand.New(rand.NewSource(1))
	for range 2000 {
		l := sampleList(r)
		footprint := footprintOf(l)
		if got, e := tracking.Footprint(l); !slices.Equal(got, footprint) || e != api.OK {
			t.Errorf("Footprint(%v): got %v, %d, want %v", l, got, e, footprint)
		}
		var want []entries
		s := state{}
		for _, c := range l.Cues {
			s.run(c)
			want = append(want, s.look(footprint))
		}
		checkSheet(t, l, want)
	}
}

// TestOriginsExplainLooks compares origins with those that a search finds, and the moves in them with looks.
func TestOriginsExplainLooks(t *testing.T) {
	r := rand.New(rand.NewSource(2))
	for range 1000 {
		l := sampleList(r)
		for i, c := range l.Cues {
			look, e := tracking.Look(l, c.Number)
			if e != api.OK {
				t.Fatalf("Look(%v, %q): got %d", l, c.Number, e)
			}
			for _, x := range look {
				want, value := "", api.Value{Palette: -1}
				for _, before := range l.Cues[:i+1] {
					if before.Block {
						want, value = "", api.Value{Palette: -1}
					}
					if j, found, _ := cue.Find(before, x.Param); found {
						want, value = before.Number, before.Moves[j].Value
					}
				}
				got, found, e := tracking.Origin(l, c.Number, x.Param)
				if got != want || found != (want != "") || e != api.OK {
					t.Errorf("Origin(%v, %q, %v): got %q, %t, %d, want %q", l, c.Number, x.Param, got, found, e, want)
				}
				if x.Value != value {
					t.Errorf("Look(%v, %q): got %v, want %v", l, c.Number, x, value)
				}
			}
		}
	}
}

// TestStepsLeadToLooks adds the steps of all cues, and the changes from any cue to any other one.
func TestStepsLeadToLooks(t *testing.T) {
	r := rand.New(rand.NewSource(3))
	for range 1000 {
		l := sampleList(r)
		sheet, e := tracking.Sheet(l)
		if e != api.OK {
			t.Fatalf("Sheet(%v): got %d", l, e)
		}
		s := state{}
		for i, c := range l.Cues {
			steps, e := tracking.Steps(l, c.Number)
			if e != api.OK {
				t.Fatalf("Steps(%v, %q): got %d", l, c.Number, e)
			}
			before := s.look(footprintOf(l))
			if checkPutOver(t, before, steps); !slices.Equal(put(s, steps).look(footprintOf(l)), sheet[i]) {
				t.Errorf("Steps(%v, %q): got %v, which lead from %v not to %v", l, c.Number, steps, before, sheet[i])
			}
			for j, to := range l.Cues {
				changes, e := tracking.Changes(l, c.Number, to.Number)
				if e != api.OK || i == j && len(changes) > 0 {
					t.Errorf("Changes(%v, %q, %q): got %v, %d", l, c.Number, to.Number, changes, e)
				}
				if checkPutOver(t, sheet[i], changes); !slices.Equal(put(put(state{}, sheet[i]), changes).look(footprintOf(l)), sheet[j]) {
					t.Errorf("Changes(%v, %q, %q): got %v, which lead from %v not to %v", l, c.Number, to.Number, changes, sheet[i], sheet[j])
				}
			}
		}
	}
}

// put sets entries in a state, and returns it.
func put(s state, l entries) state {
	for _, x := range l {
		s.set(x)
	}
	return s
}

// checkPutOver checks that entries are in order, and that each of them changes the value that it has in a look.
func checkPutOver(t *testing.T, look, l entries) {
	t.Helper()
	for i, x := range l {
		if slices.Contains(look, x) || i > 0 && compare(x.Param, l[i-1].Param) <= 0 {
			t.Errorf("%v are not changes of %v", l, look)
		}
	}
}

// TestMovesThatChangeNothing leaves out moves to values that parameters have in the cue before, or that a block gives them: looks remain.
func TestMovesThatChangeNothing(t *testing.T) {
	r := rand.New(rand.NewSource(4))
	left := 0
	for range 2000 {
		l := sampleList(r)
		trimmed, s := l, state{}
		trimmed.Cues = slices.Clone(l.Cues)
		for i, c := range l.Cues {
			before := state{}
			if !c.Block {
				before = put(before, s.look(footprintOf(l)))
			}
			trimmed.Cues[i].Moves = slices.DeleteFunc(slices.Clone(c.Moves), func(m api.Move) bool {
				return before.look(params{m.Param})[0].Value == m.Value && r.Intn(4) > 0
			})
			left += len(c.Moves) - len(trimmed.Cues[i].Moves)
			s.run(c)
		}
		footprint, e := tracking.Footprint(trimmed)
		if e != api.OK {
			t.Fatalf("Footprint(%v): got %d", trimmed, e)
		}
		sheet, e := tracking.Sheet(l)
		if e != api.OK {
			t.Fatalf("Sheet(%v): got %d", l, e)
		}
		for i, look := range sheet {
			sheet[i] = slices.DeleteFunc(look, func(x api.Entry) bool { return !slices.Contains(footprint, x.Param) })
		}
		checkSheet(t, trimmed, sheet)
	}
	if left < 2000 {
		t.Errorf("%d moves were left out", left)
	}
}

// TestListsAreNotShared checks that arguments stay as they are, beyond their length too, and that results are new.
func TestListsAreNotShared(t *testing.T) {
	spared := func() api.List {
		l := scene()
		for i, c := range l.Cues {
			l.Cues[i].Moves = append(slices.Clone(c.Moves), api.Move{Part: 7})[:len(c.Moves)]
		}
		l.Cues = append(l.Cues, track("7"))[:len(l.Cues)]
		return l
	}
	l := spared()
	for range 2 {
		for name, look := range map[string]func() (entries, api.Errno){
			"Look": func() (entries, api.Errno) { return tracking.Look(l, "10.5") }, "Steps": func() (entries, api.Errno) { return tracking.Steps(l, "2") }, "Changes": func() (entries, api.Errno) { return tracking.Changes(l, "0.5", "100") },
		} {
			got, e := look()
			if len(got) < 2 || e != api.OK {
				t.Errorf("%s: got %v, %d", name, got, e)
			}
			clear(got[:cap(got)])
		}
		footprint, e := tracking.Footprint(l)
		if !slices.Equal(footprint, footprintOf(l)) || e != api.OK {
			t.Errorf("Footprint: got %v, %d", footprint, e)
		}
		clear(footprint[:cap(footprint)])
		sheet, e := tracking.Sheet(l)
		if len(sheet) != len(l.Cues) || e != api.OK {
			t.Fatalf("Sheet: got %v, %d", sheet, e)
		}
		for i, look := range sheet {
			if !slices.Equal(look, sheetOfScene()[i]) {
				t.Errorf("look %d is %v", i, look)
			}
			clear(look[:cap(look)])
		}
	}
	whole := func(l api.List) api.List {
		l.Cues = slices.Clone(l.Cues[:len(l.Cues)+1])
		for i, c := range l.Cues[:len(l.Cues)-1] {
			l.Cues[i].Moves = c.Moves[:len(c.Moves)+1]
		}
		return l
	}
	if !cuelist.Same(whole(l), whole(spared())) {
		t.Errorf("the list has become %v", whole(l))
	}
}

// anyList returns a list that is often right.
func anyList(r *rand.Rand) api.List {
	l := sampleList(r)
	if len(l.Cues) == 0 || r.Intn(4) > 0 {
		return l
	}
	switch c := &l.Cues[r.Intn(len(l.Cues))]; r.Intn(6) {
	case 0:
		c.Number = anyNumber(r)
	case 1:
		c.Moves = append(c.Moves, sampleMoves(r)...)
	case 2:
		c.Parts = nil
	case 3:
		l.Number = outside(1, api.MaxNumber)[r.Intn(7)]
	case 4:
		l.Priority = outside(0, api.MaxPriority)[r.Intn(7)]
	case 5:
		l.Cues = append(l.Cues, make(cues, r.Intn(100))...)
	}
	return l
}

// anyNumber returns a text that is often the number of a cue.
func anyNumber(r *rand.Rand) string {
	if r.Intn(9) > 0 {
		return strconv.Itoa(3 * (1 + r.Intn(6)))
	}
	return []string{"", "x", "0", "1.0", "2", "12345", "1.2345"}[r.Intn(7)]
}

// anyParam returns a pair of ints that is often a parameter.
func anyParam(r *rand.Rand) api.Param {
	p := param(1+r.Intn(3), r.Intn(api.Attrs))
	if r.Intn(9) == 0 {
		p.Attr = outside(0, api.Attrs-1)[r.Intn(7)]
	}
	return p
}

// errorOf returns the error of a list, or of the first number of a cue with one.
func errorOf(l api.List, numbers ...string) api.Errno {
	e := cuelist.Check(l)
	for _, n := range numbers {
		e = cmp.Or(e, number.Check(n))
		if e == api.OK && !slices.ContainsFunc(l.Cues, func(c api.Cue) bool { return c.Number == n }) {
			e = api.ErrNone
		}
	}
	return e
}

// TestAnyArgumentsEnd hands any arguments to all functions: they end, with the right error, and nothing beside it.
func TestAnyArgumentsEnd(t *testing.T) {
	r := rand.New(rand.NewSource(5))
	right := 0
	for range 4000 {
		l, n, to, p := anyList(r), anyNumber(r), anyNumber(r), anyParam(r)
		if errorOf(l, n, to) == api.OK {
			right++
		}
		footprint, e := tracking.Footprint(l)
		if want := errorOf(l); e != want || want != api.OK && len(footprint) > 0 {
			t.Errorf("Footprint(%v): got %v, %d, want %d", l, footprint, e, want)
		}
		sheet, e := tracking.Sheet(l)
		if want := errorOf(l); e != want || want != api.OK && len(sheet) > 0 {
			t.Errorf("Sheet(%v): got %v, %d, want %d", l, sheet, e, want)
		}
		look, e1 := tracking.Look(l, n)
		steps, e2 := tracking.Steps(l, n)
		if want := errorOf(l, n); e1 != want || e2 != want || want != api.OK && len(look)+len(steps) > 0 {
			t.Errorf("%v, %q: got %v, %d, %v, %d, want %d", l, n, look, e1, steps, e2, want)
		}
		origin, found, e := tracking.Origin(l, n, p)
		if want := cmp.Or(errorOf(l, n), parameter.Check(p)); e != want || found != (origin != "") || want != api.OK && found {
			t.Errorf("Origin(%v, %q, %v): got %q, %t, %d, want %d", l, n, p, origin, found, e, want)
		}
		changes, e := tracking.Changes(l, n, to)
		if want := errorOf(l, n, to); e != want || want != api.OK && len(changes) > 0 {
			t.Errorf("Changes(%v, %q, %q): got %v, %d, want %d", l, n, to, changes, e, want)
		}
	}
	if right < 800 || right > 3800 {
		t.Errorf("%d of the arguments were right", right)
	}
}
