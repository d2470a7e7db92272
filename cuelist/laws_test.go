package cuelist_test

import (
	"cmp"
	"math/rand"
	"slices"
	"testing"

	"luminaire/api"
	"luminaire/cue"
	"luminaire/cuelist"
	"luminaire/number"
)

// sampleNumber returns one of a hundred numbers, of which texts and values are ordered differently.
func sampleNumber(r *rand.Rand) string {
	n, _ := number.Of([]int{1, 10, 100, 500, 1000}[r.Intn(5)] * (1 + r.Intn(20)))
	return n
}

// sampleCue returns a cue that has something of everything, or nothing.
func sampleCue(r *rand.Rand) api.Cue {
	c := []api.Cue{full("1"), plain("1", "")}[r.Intn(2)]
	c.Number, c.Link = sampleNumber(r), sampleNumber(r)
	for i := range c.Moves {
		c.Moves[i].Value.Palette = r.Intn(5) - 1
	}
	return c
}

// valueOf returns the thousandths of the number of a cue.
func valueOf(c api.Cue) int {
	n, _ := number.Thousandths(c.Number)
	return n
}

func byValue(a, b api.Cue) int { return cmp.Compare(valueOf(a), valueOf(b)) }

// sampleList returns a list of cues that are rarely as many as possible.
func sampleList(r *rand.Rand) api.List {
	byNumber := map[string]api.Cue{}
	for range []int{r.Intn(4), r.Intn(20), 200}[r.Intn(9)/4] {
		if c := sampleCue(r); len(byNumber) < api.MaxCues {
			byNumber[c.Number] = c
		}
	}
	l := api.List{Number: 1 + r.Intn(api.MaxNumber), Priority: r.Intn(api.MaxPriority + 1)}
	for _, c := range byNumber {
		l.Cues = append(l.Cues, c)
	}
	slices.SortFunc(l.Cues, byValue)
	return l
}

// numbersOf returns the numbers of cues.
func numbersOf(l cues) numbers {
	var all numbers
	for _, c := range l {
		all = append(all, c.Number)
	}
	return all
}

// TestWhatWasPutIsFound puts cues, finds them, and drops them again.
func TestWhatWasPutIsFound(t *testing.T) {
	r := rand.New(rand.NewSource(1))
	news, olds, manys := 0, 0, 0
	for range 3000 {
		l, c := sampleList(r), sampleCue(r)
		others := with(l, slices.DeleteFunc(slices.Clone(l.Cues), func(x api.Cue) bool { return x.Number == c.Number })...)
		want := with(l, append(slices.Clone(others.Cues), c)...)
		slices.SortFunc(want.Cues, byValue)
		put, e := cuelist.Put(l, c)
		if len(want.Cues) > api.MaxCues {
			manys++
			if !equal(put, none()) || e != api.ErrMany {
				t.Errorf("Put(%v, %v): got %v, %d", l, c, put, e)
			}
			continue
		}
		if !equal(put, want) || e != api.OK || cuelist.Check(put) != api.OK {
			t.Fatalf("Put(%v, %v): got %v, %d, want %v", l, c, put, e, want)
		}
		i, found, e := cuelist.Find(put, c.Number)
		if !found || !cue.Same(put.Cues[i], c) || e != api.OK {
			t.Errorf("Find(%v, %q): got %d, %t, %d, want %v", put, c.Number, i, found, e, c)
		}
		if left, found, e := cuelist.Drop(put, c.Number); !equal(left, others) || !found || e != api.OK {
			t.Errorf("Drop(%v, %q): got %v, %t, %d, want %v", put, c.Number, left, found, e, others)
		}
		left, found, e := cuelist.Drop(l, c.Number)
		if !equal(left, others) || found != (len(others.Cues) < len(l.Cues)) || e != api.OK {
			t.Errorf("Drop(%v, %q): got %v, %t, %d, want %v", l, c.Number, left, found, e, others)
		}
		if found {
			olds++
		} else {
			news++
		}
	}
	if news < 500 || olds < 200 || manys < 50 {
		t.Errorf("%d cues were new, %d there before, and %d too many", news, olds, manys)
	}
}

// walk goes from a cue to the next one, until there is none.
func walk(t *testing.T, l api.List, first func(l api.List) (string, bool, api.Errno), next func(l api.List, number string) (string, bool, api.Errno)) numbers {
	t.Helper()
	var way numbers
	number, found, e := first(l)
	for found && len(way) <= len(l.Cues) {
		way = append(way, number)
		number, found, e = next(l, number)
	}
	if number != "" || e != api.OK {
		t.Errorf("the way through %v ends with %q, %d", l, number, e)
	}
	return way
}

// TestWaysLeadThroughAllCues walks through lists from both ends, and compares the neighbours of any numbers with those that a search finds.
func TestWaysLeadThroughAllCues(t *testing.T) {
	r := rand.New(rand.NewSource(2))
	for range 1500 {
		l := sampleList(r)
		there, back := walk(t, l, cuelist.First, cuelist.After), walk(t, l, cuelist.Last, cuelist.Before)
		slices.Reverse(back)
		if want := numbersOf(l.Cues); !slices.Equal(there, want) || !slices.Equal(back, want) {
			t.Errorf("the ways lead through %v and %v, want %v", there, back, want)
		}
		n := sampleNumber(r)
		var before, after string
		for _, c := range l.Cues {
			switch {
			case valueOf(c) < valueOf(plain(n, "")):
				before = c.Number
			case valueOf(c) > valueOf(plain(n, "")) && after == "":
				after = c.Number
			}
		}
		if got, found, e := cuelist.Before(l, n); got != before || found != (before != "") || e != api.OK {
			t.Errorf("Before(%v, %q): got %q, %t, %d, want %q", l, n, got, found, e, before)
		}
		if got, found, e := cuelist.After(l, n); got != after || found != (after != "") || e != api.OK {
			t.Errorf("After(%v, %q): got %q, %t, %d, want %q", l, n, got, found, e, after)
		}
	}
}

// numbersIf returns the numbers of the cues for which a function is true.
func numbersIf(l cues, wanted func(c api.Cue) bool) numbers {
	return numbersOf(slices.DeleteFunc(slices.Clone(l), func(c api.Cue) bool { return !wanted(c) }))
}

// TestOpenAndReferringCues compares open links, and references, with those that a search finds.
func TestOpenAndReferringCues(t *testing.T) {
	r := rand.New(rand.NewSource(3))
	for range 1500 {
		l, n := sampleList(r), r.Intn(5)-1
		open := numbersIf(l.Cues, func(c api.Cue) bool { return c.Link != "" && !slices.Contains(numbersOf(l.Cues), c.Link) })
		if got, e := cuelist.Open(l); !slices.Equal(got, open) || e != api.OK {
			t.Errorf("Open(%v): got %v, %d, want %v", l, got, e, open)
		}
		refers := numbersIf(l.Cues, func(c api.Cue) bool {
			return n > 0 && slices.ContainsFunc(c.Moves, func(m api.Move) bool { return m.Value.Palette == n })
		})
		if got, e := cuelist.Refers(l, n); !slices.Equal(got, refers) || e != api.OK {
			t.Errorf("Refers(%v, %d): got %v, %d, want %v", l, n, got, e, refers)
		}
	}
}

// TestRenumberingThereAndBack renumbers cues, and back again. This changes nothing, unless an open link led to the new number before.
func TestRenumberingThereAndBack(t *testing.T) {
	r := rand.New(rand.NewSource(4))
	there, caught := 0, 0
	for range 4000 {
		l, to := sampleList(r), sampleNumber(r)
		if len(l.Cues) == 0 {
			continue
		}
		from := l.Cues[r.Intn(len(l.Cues))].Number
		got, e := cuelist.Renumber(l, from, to)
		if from != to && slices.Contains(numbersOf(l.Cues), to) {
			if !equal(got, none()) || e != api.ErrTwice {
				t.Errorf("Renumber(%v, %q, %q): got %v, %d", l, from, to, got, e)
			}
			continue
		}
		want := with(l, slices.Clone(l.Cues)...)
		for i, c := range want.Cues {
			if c.Link == from {
				want.Cues[i].Link = to
			}
			if c.Number == from {
				want.Cues[i].Number = to
			}
		}
		slices.SortFunc(want.Cues, byValue)
		if !equal(got, want) || e != api.OK || cuelist.Check(got) != api.OK {
			t.Fatalf("Renumber(%v, %q, %q): got %v, %d, want %v", l, from, to, got, e, want)
		}
		catches := func(c api.Cue) bool { return from != to && c.Link == to }
		if slices.ContainsFunc(l.Cues, catches) {
			caught++
			continue
		}
		there++
		if back, e := cuelist.Renumber(got, to, from); !equal(back, l) || e != api.OK {
			t.Errorf("Renumber(%v, %q, %q): got %v, %d, want %v", got, to, from, back, e, l)
		}
		checkOpen(t, l, got, from, to)
	}
	if there < 1000 || caught < 50 {
		t.Errorf("%d times there and back, and %d links that were open", there, caught)
	}
}

// checkOpen checks that the same links are open in a list and behind the renumbering of a cue.
func checkOpen(t *testing.T, before, behind api.List, from, to string) {
	t.Helper()
	a, e := cuelist.Open(before)
	b, f := cuelist.Open(behind)
	if i := slices.Index(a, from); i >= 0 {
		a[i] = to
	}
	slices.Sort(a)
	slices.Sort(b)
	if !slices.Equal(a, b) || cmp.Or(e, f) != api.OK {
		t.Errorf("of %v and %v the links of %v, %d and %v, %d are open", before, behind, a, e, b, f)
	}
}

// spared returns a cue with room behind its lists, where something is.
func spared(c api.Cue) api.Cue {
	c.Moves = append(slices.Clone(c.Moves), move(777, 7, 7))[:len(c.Moves)]
	c.Parts = append(slices.Clone(c.Parts), api.Timing{Up: 777})[:len(c.Parts)]
	return c
}

// wipe clears a list, and what is behind it.
func wipe(l api.List) {
	for _, c := range l.Cues[:cap(l.Cues)] {
		clear(c.Moves[:cap(c.Moves)])
		clear(c.Parts[:cap(c.Parts)])
	}
	clear(l.Cues[:cap(l.Cues)])
}

// TestListsAreNotShared checks that arguments stay as they are, beyond their length too, and that results are new.
func TestListsAreNotShared(t *testing.T) {
	l, c := scene(), spared(full("11"))
	for i, x := range l.Cues {
		l.Cues[i] = spared(x)
	}
	l.Cues = append(l.Cues, full("7"))[:len(l.Cues)]
	for range 2 {
		for name, change := range map[string]func() (api.List, api.Errno){
			"Put": func() (api.List, api.Errno) { return cuelist.Put(l, c) }, "Put at the end": func() (api.List, api.Errno) { return cuelist.Put(with(l, l.Cues[:4]...), c) }, "Put instead": func() (api.List, api.Errno) { return cuelist.Put(l, spared(full("2"))) }, "Put itself": func() (api.List, api.Errno) { return cuelist.Put(l, l.Cues[1]) },
			"Drop": func() (api.List, api.Errno) { x, _, e := cuelist.Drop(l, "10"); return x, e }, "Drop the last cue": func() (api.List, api.Errno) { x, _, e := cuelist.Drop(l, "9999.999"); return x, e }, "Drop nothing": func() (api.List, api.Errno) { x, _, e := cuelist.Drop(l, "11"); return x, e },
			"Renumber": func() (api.List, api.Errno) { return cuelist.Renumber(l, "2", "11") }, "Renumber at its place": func() (api.List, api.Errno) { return cuelist.Renumber(l, "2", "2.1") }, "Renumber nothing": func() (api.List, api.Errno) { return cuelist.Renumber(l, "2", "2") },
		} {
			got, e := change()
			if len(got.Cues) < 5 || e != api.OK {
				t.Errorf("%s: got %v, %d", name, got, e)
			}
			wipe(got)
		}
		open, e := cuelist.Open(l)
		refers, f := cuelist.Refers(l, 4)
		if !slices.Equal(open, numbers{"10.01"}) || !slices.Equal(refers, numbers{"2", "12"}) || cmp.Or(e, f) != api.OK {
			t.Errorf("got the open links of %v, %d, and the references of %v, %d", open, e, refers, f)
		}
		clear(open)
		clear(refers)
	}
	if !equal(with(l, l.Cues[:7]...), with(scene(), append(scene().Cues, full("7"))...)) || !cue.Same(c, full("11")) {
		t.Errorf("the arguments have become %v and %v", l.Cues[:7], c)
	}
	for _, x := range append(slices.Clone(l.Cues), c) {
		if x.Moves[:len(x.Moves)+1][len(x.Moves)] != move(777, 7, 7) || x.Parts[:len(x.Parts)+1][len(x.Parts)].Up != 777 {
			t.Errorf("behind the lists of cue %s is something else", x.Number)
		}
	}
}

// anyNumber returns a text that is often the number of a cue.
func anyNumber(r *rand.Rand) string {
	if r.Intn(9) > 0 {
		return sampleNumber(r)
	}
	return []string{"", "x", "0", "1.0", "01", "12345", "1.2345"}[r.Intn(7)]
}

// anyCue returns a cue that is often right.
func anyCue(r *rand.Rand) api.Cue {
	wrong := wrongCues()
	if r.Intn(9) > 0 {
		return sampleCue(r)
	}
	return wrong[r.Intn(len(wrong))].c
}

// anyList returns a list that is often right.
func anyList(r *rand.Rand) api.List {
	l, wrong := sampleList(r), wrongLists()
	switch {
	case r.Intn(6) == 0:
		return wrong[r.Intn(len(wrong))].l
	case r.Intn(6) == 0 && len(l.Cues) > 0:
		l.Cues[r.Intn(len(l.Cues))] = anyCue(r)
	}
	return l
}

// TestAnyArgumentsEnd hands any arguments to all functions: they end, with nothing beside an error, and otherwise with lists.
func TestAnyArgumentsEnd(t *testing.T) {
	r := rand.New(rand.NewSource(5))
	right := 0
	for range 4000 {
		l, other, c, n, to := anyList(r), anyList(r), anyCue(r), anyNumber(r), anyNumber(r)
		want := cuelist.Check(l)
		if want == api.OK {
			right++
		}
		numbered := cmp.Or(want, number.Check(n))
		i, found, e1 := cuelist.Find(l, n)
		dropped, was, e2 := cuelist.Drop(l, n)
		put, e3 := cuelist.Put(l, c)
		renumbered, e4 := cuelist.Renumber(l, n, to)
		if e1 != numbered || e2 != numbered || cmp.Or(want, cue.Check(c), e3) != e3 || cmp.Or(numbered, number.Check(to), e4) != e4 || found != was || !found && i != 0 {
			t.Errorf("%v, %v, %q, %q: got the errors %d, %d, %d, %d", l, c, n, to, e1, e2, e3, e4)
		}
		for i, e := range []api.Errno{e2, e3, e4} {
			if x := []api.List{dropped, put, renumbered}[i]; e != api.OK && !equal(x, none()) || e == api.OK && cuelist.Check(x) != api.OK {
				t.Errorf("%v, %v, %q, %q: got %v, %d", l, c, n, to, x, e)
			}
		}
		after, is, e5 := cuelist.After(l, n)
		before, has, e6 := cuelist.Before(l, n)
		if e5 != numbered || e6 != numbered || is != (after != "") || has != (before != "") || e5 != api.OK && (is || has) {
			t.Errorf("%v, %q: got %q, %t, %d, %q, %t, %d", l, n, after, is, e5, before, has, e6)
		}
		open, e7 := cuelist.Open(l)
		refers, e8 := cuelist.Refers(l, r.Intn(9)-3)
		if e7 != want || e8 != want || want != api.OK && len(open)+len(refers) > 0 {
			t.Errorf("%v: got %v, %d, %v, %d", l, open, e7, refers, e8)
		}
		if cuelist.Same(l, other) != equal(l, other) || !cuelist.Same(l, l) {
			t.Errorf("Same(%v, %v) is wrong", l, other)
		}
	}
	if right < 2000 || right > 3800 {
		t.Errorf("%d of the lists were right", right)
	}
}
