package cue_test

import (
	"cmp"
	"math/rand"
	"slices"
	"testing"

	"luminaire/api"
	"luminaire/cue"
)

// compare compares parameters by their channels, and then by their attributes.
func compare(a, b api.Param) int {
	return cmp.Or(a.Channel-b.Channel, a.Attr-b.Attr)
}

// sampleParam returns one of few parameters.
func sampleParam(r *rand.Rand) api.Param {
	return param([]int{1, 2, 3, 998, 999}[r.Intn(5)], r.Intn(api.Attrs))
}

// sampleValue returns a value of any kind.
func sampleValue(r *rand.Rand) api.Value {
	return []api.Value{{Level: r.Intn(api.MaxLevel + 1)}, {Palette: -1}, {Palette: 1 + r.Intn(api.MaxNumber)}}[r.Intn(3)]
}

// sampleMoves returns moves of some of the first parts. They are rarely nearly as many as possible.
func sampleMoves(r *rand.Rand, parts int) moves {
	var l moves
	used := map[api.Param]bool{}
	for range r.Intn([]int{3, 20, 200}[r.Intn(7)/3]) {
		p := sampleParam(r)
		if !used[p] {
			used[p] = true
			l = append(l, api.Move{Param: p, Value: sampleValue(r), Part: 1 + r.Intn(parts)})
		}
	}
	slices.SortFunc(l, func(a, b api.Move) int { return compare(a.Param, b.Param) })
	return l
}

// sampleCue returns a cue, in which some parts have no moves.
func sampleCue(r *rand.Rand) api.Cue {
	c := scene()
	c.Parts = make(parts, 1+r.Intn(api.MaxParts))
	for i := range c.Parts {
		for _, time := range timesOf() {
			*time(&c.Parts[i]) = r.Intn(api.MaxTime + 1)
		}
	}
	c.Moves = sampleMoves(r, len(c.Parts))
	if r.Intn(2) == 0 {
		c.Number, c.Label, c.Block, c.Mark, c.Follow, c.Link, c.Loops = "7", "", false, false, -1, "", 0
	}
	return c
}

// merged returns the moves of both lists, by their parameters.
func merged(a, b moves) moves {
	byParam := map[api.Param]api.Move{}
	for _, m := range slices.Concat(a, b) {
		byParam[m.Param] = m
	}
	var l moves
	for _, m := range byParam {
		l = append(l, m)
	}
	slices.SortFunc(l, func(a, b api.Move) int { return compare(a.Param, b.Param) })
	return l
}

// mustMerge returns the merged moves.
func mustMerge(t *testing.T, a, b moves) moves {
	t.Helper()
	l, e := cue.Merge(a, b)
	if e != api.OK || cue.Moves(l) != api.OK {
		t.Fatalf("Merge(%v, %v): got %v, %d", a, b, l, e)
	}
	return l
}

// TestMergingIsAssociative compares merged moves with those of a map, and checks the laws of merging.
func TestMergingIsAssociative(t *testing.T) {
	r := rand.New(rand.NewSource(1))
	for range 3000 {
		a, b, c := sampleMoves(r, api.MaxParts), sampleMoves(r, api.MaxParts), sampleMoves(r, api.MaxParts)
		// There are fewer parameters than there may be moves.
		if got := mustMerge(t, a, b); !slices.Equal(got, merged(a, b)) {
			t.Errorf("Merge(%v, %v): got %v, want %v", a, b, got, merged(a, b))
		}
		if !slices.Equal(mustMerge(t, a, a), a) || !slices.Equal(mustMerge(t, a, nil), a) || !slices.Equal(mustMerge(t, nil, a), a) {
			t.Errorf("merging %v with itself, or nothing, changes it", a)
		}
		left, right := mustMerge(t, mustMerge(t, a, b), c), mustMerge(t, a, mustMerge(t, b, c))
		if !slices.Equal(left, right) {
			t.Errorf("%v, %v and %v become %v and %v", a, b, c, left, right)
		}
	}
}

// TestWhatWasSetIsFound sets entries, finds them with their values and part, and drops them again.
func TestWhatWasSetIsFound(t *testing.T) {
	r := rand.New(rand.NewSource(2))
	news, olds := 0, 0
	for range 3000 {
		c, given := sampleCue(r), valuesOf(sampleMoves(r, 1))
		part := 1 + r.Intn(len(c.Parts))
		set, e := cue.Set(c, given, part)
		if e != api.OK || cue.Check(set) != api.OK {
			t.Fatalf("Set(%v, %v, %d): got %v, %d", c, given, part, set, e)
		}
		var dropped params
		for _, x := range given {
			i, found, e := cue.Find(set, x.Param)
			if !found || set.Moves[i] != (api.Move{Param: x.Param, Value: x.Value, Part: part}) || e != api.OK {
				t.Errorf("Find(%v, %v): got %d, %t, %d, want %v in part %d", set, x.Param, i, found, e, x, part)
			}
			if _, found, _ := cue.Find(c, x.Param); found {
				olds++
			} else {
				news++
			}
			dropped = append(dropped, x.Param)
		}
		others := slices.DeleteFunc(slices.Clone(c.Moves), func(m api.Move) bool { return slices.Contains(dropped, m.Param) })
		r.Shuffle(len(dropped), func(i, j int) { dropped[i], dropped[j] = dropped[j], dropped[i] })
		for _, x := range []api.Cue{c, set} {
			if got, e := cue.Drop(x, dropped); !equal(got, with(c, others...)) || e != api.OK {
				t.Errorf("Drop(%v, %v): got %v, %d, want the moves %v", x, dropped, got, e, others)
			}
		}
		if want := with(c, merged(others, set.Moves)...); !equal(set, want) || len(set.Moves) != len(others)+len(given) {
			t.Errorf("Set(%v, %v, %d): got %v, want %v", c, given, part, set, want)
		}
	}
	if news < 3000 || olds < 3000 {
		t.Errorf("%d moves were new, and %d there before", news, olds)
	}
}

// TestPackingKeepsValuesAndTimes compares the moves of cues with those behind packing, and with those of all parts.
func TestPackingKeepsValuesAndTimes(t *testing.T) {
	r := rand.New(rand.NewSource(3))
	shorter := 0
	for range 3000 {
		c := sampleCue(r)
		packed, e := cue.Pack(c)
		if e != api.OK || cue.Check(packed) != api.OK || len(packed.Moves) != len(c.Moves) || packed.Parts[0] != c.Parts[0] {
			t.Fatalf("Pack(%v): got %v, %d", c, packed, e)
		}
		if len(packed.Parts) < len(c.Parts) {
			shorter++
		}
		back := packed
		back.Moves, back.Parts = slices.Clone(packed.Moves), c.Parts
		for i, m := range packed.Moves {
			if packed.Parts[m.Part-1] != c.Parts[c.Moves[i].Part-1] {
				t.Errorf("Pack(%v): got %v, where move %d has other times", c, packed, i)
			}
			back.Moves[i].Part = c.Moves[i].Part
		}
		before, e := cue.Entries(c)
		behind, f := cue.Entries(packed)
		if !equal(back, c) || !slices.Equal(before, behind) || !slices.Equal(before, valuesOf(c.Moves)) || cmp.Or(e, f) != api.OK {
			t.Errorf("Pack(%v): got %v, with the values %v, %d and %v, %d", c, packed, before, e, behind, f)
		}
		if again, e := cue.Pack(packed); !cue.Same(again, packed) || !equal(again, packed) || e != api.OK {
			t.Errorf("Pack(%v): got %v, %d", packed, again, e)
		}
		checkParts(t, c, 0)
		checkParts(t, packed, 1)
	}
	if shorter < 500 {
		t.Errorf("%d of the cues became shorter", shorter)
	}
}

// checkParts checks that the parts of a cue together have all of its moves, and each part behind the first one some of them or more.
func checkParts(t *testing.T, c api.Cue, some int) {
	t.Helper()
	var together moves
	for i := range c.Parts {
		l, e := cue.Split(c, i+1)
		if e != api.OK || i > 0 && len(l) < some || slices.ContainsFunc(l, func(m api.Move) bool { return m.Part != i+1 }) || !slices.IsSortedFunc(l, func(a, b api.Move) int { return compare(a.Param, b.Param) }) {
			t.Errorf("Split(%v, %d): got %v, %d", c, i+1, l, e)
		}
		together = append(together, l...)
	}
	if len(together) != len(c.Moves) || !slices.Equal(merged(together, nil), c.Moves) {
		t.Errorf("the parts of %v have the moves %v", c, together)
	}
}

// spared returns a cue with room behind its lists, where something is.
func spared(c api.Cue) api.Cue {
	c.Moves = append(slices.Clone(c.Moves), move(777, 7, 7, 7))[:len(c.Moves)]
	c.Parts = append(slices.Clone(c.Parts), all(777))[:len(c.Parts)]
	return c
}

// wipe clears lists, and what is behind them.
func wipe(c api.Cue) {
	clear(c.Moves[:cap(c.Moves)])
	clear(c.Parts[:cap(c.Parts)])
}

// TestListsAreNotShared checks that arguments stay as they are, beyond their length too, and that results are new.
func TestListsAreNotShared(t *testing.T) {
	c, a := spared(scene()), spared(with(none(), move(1, 1, 1, 1), move(5, 5, 5, 1))).Moves
	given := append(valuesOf(a), entry(move(777, 7, 7, 7)))[:2]
	dropped := append(params{param(3, api.AttrRed), param(1, 0)}, param(777, 7))[:2]
	for range 2 {
		for name, change := range map[string]func() (api.Cue, api.Errno){
			"Set": func() (api.Cue, api.Errno) { return cue.Set(c, given, 2) }, "Set nothing": func() (api.Cue, api.Errno) { return cue.Set(c, nil, 2) },
			"Drop": func() (api.Cue, api.Errno) { return cue.Drop(c, dropped) }, "Drop nothing": func() (api.Cue, api.Errno) { return cue.Drop(c, nil) },
			"Pack": func() (api.Cue, api.Errno) { return cue.Pack(c) }, "Pack a packed cue": func() (api.Cue, api.Errno) { return cue.Pack(with(c, many(1, 4)...)) },
		} {
			got, e := change()
			if len(got.Moves) < 3 || len(got.Parts) < 2 || e != api.OK {
				t.Errorf("%s: got %v, %d", name, got, e)
			}
			wipe(got)
		}
		for name, change := range map[string]func() (moves, api.Errno){
			"Merge": func() (moves, api.Errno) { return cue.Merge(c.Moves, a) }, "Merge the other way": func() (moves, api.Errno) { return cue.Merge(a, c.Moves) }, "Merge with nothing": func() (moves, api.Errno) { return cue.Merge(a, nil) },
			"Merge nothing": func() (moves, api.Errno) { return cue.Merge(nil, a) }, "Split": func() (moves, api.Errno) { return cue.Split(c, 4) }, "Split of a part that has all": func() (moves, api.Errno) { return cue.Split(with(c, a...), 1) },
		} {
			got, e := change()
			if len(got) < 2 || e != api.OK {
				t.Errorf("%s: got %v, %d", name, got, e)
			}
			clear(got[:cap(got)])
		}
		values, e := cue.Entries(c)
		if len(values) != 5 || e != api.OK {
			t.Errorf("Entries: got %v, %d", values, e)
		}
		clear(values)
	}
	if !equal(with(c, c.Moves[:6]...), with(scene(), append(scene().Moves, move(777, 7, 7, 7))...)) || c.Parts[:5][4] != all(777) {
		t.Errorf("the cue has become %v", c)
	}
	if !slices.Equal(a[:3], moves{move(1, 1, 1, 1), move(5, 5, 5, 1), move(777, 7, 7, 7)}) || !slices.Equal(given[:3], valuesOf(a[:3])) || !slices.Equal(dropped[:3], params{param(3, api.AttrRed), param(1, 0), param(777, 7)}) {
		t.Errorf("the arguments have become %v, %v and %v", a[:3], given[:3], dropped[:3])
	}
}

// anyInt returns an int that is nearly always from one to another.
func anyInt(r *rand.Rand, least, most int) int {
	if r.Intn(60) > 0 {
		return least + r.Intn(most-least+1)
	}
	return outside(least, most)[r.Intn(7)]
}

// anyMove returns a move that is often right.
func anyMove(r *rand.Rand) api.Move {
	return api.Move{Param: param(anyInt(r, 1, 3), anyInt(r, 0, 3)), Value: api.Value{Palette: anyInt(r, -1, 2), Level: anyInt(r, 0, 0)}, Part: anyInt(r, 1, 4)}
}

// anyCue returns a cue that is often right.
func anyCue(r *rand.Rand) api.Cue {
	c := sampleCue(r)
	for i := range c.Moves {
		if r.Intn(90) == 0 {
			c.Moves[i] = anyMove(r)
		}
	}
	for i := range c.Parts {
		c.Parts[i].Delay = anyInt(r, 0, api.MaxTime)
	}
	kinds := faults()
	if kind := kinds[r.Intn(len(kinds))]; r.Intn(6) == 0 && len(c.Parts) > 2 && len(c.Moves) > 2 {
		kind[r.Intn(len(kind))].change(&c)
	}
	return c
}

// TestAnyArgumentsEnd hands any arguments to all functions: they end, with nothing beside an error.
func TestAnyArgumentsEnd(t *testing.T) {
	r := rand.New(rand.NewSource(4))
	right := 0
	for range 5000 {
		c, d, m, part := anyCue(r), anyCue(r), anyMove(r), anyInt(r, 1, api.MaxParts)
		want := cue.Check(c)
		if want == api.OK {
			right++
		}
		i, found, e1 := cue.Find(c, m.Param)
		set, e2 := cue.Set(c, append(valuesOf(sampleMoves(r, 1)), entry(m)), part)
		dropped, e3 := cue.Drop(c, params{m.Param, param(1, 1)})
		if cmp.Or(want, e1) != e1 || cmp.Or(want, e2) != e2 || e1 != e3 || e1 != api.OK && (i != 0 || found) || e2 != api.OK && !equal(set, none()) || e3 != api.OK && !equal(dropped, none()) {
			t.Errorf("%v, %v: got %d, %t, %d, %v, %d, %v, %d", c, m, i, found, e1, set, e2, dropped, e3)
		}
		if e2 == api.OK && cue.Check(set) != api.OK || e3 == api.OK && cue.Check(dropped) != api.OK {
			t.Errorf("%v, %v: got %v and %v", c, m, set, dropped)
		}
		values, e4 := cue.Entries(c)
		l, e5 := cue.Split(c, part)
		packed, e6 := cue.Pack(c)
		if e4 != want || cmp.Or(want, e5) != e5 || e6 != want || e4 != api.OK && len(values) > 0 || e5 != api.OK && len(l) > 0 || e6 != api.OK && !equal(packed, none()) {
			t.Errorf("%v, %d: got %v, %d, %v, %d, %v, %d", c, part, values, e4, l, e5, packed, e6)
		}
		both, e7 := cue.Merge(c.Moves, d.Moves)
		if cmp.Or(cue.Moves(c.Moves), cue.Moves(d.Moves), e7) != e7 || e7 != api.OK && len(both) > 0 || cue.Moves(both) != api.OK {
			t.Errorf("Merge(%v, %v): got %v, %d", c.Moves, d.Moves, both, e7)
		}
		if cue.Same(c, d) != equal(c, d) || !cue.Same(c, c) {
			t.Errorf("Same(%v, %v) is wrong", c, d)
		}
	}
	if right < 2000 || right > 4500 {
		t.Errorf("%d of the cues were right", right)
	}
}
