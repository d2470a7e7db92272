package cuelist

import (
	"iter"
	"slices"

	"luminaire/api"
	"luminaire/cue"
	"luminaire/number"
	"luminaire/palette"
)

// list is a list of cues with right numbers. The methods that change it need a copy.
type list struct{ api.List }

// copyOf returns a list that shares no memory with another one.
func copyOf(l api.List) *list {
	l.Cues = slices.Clone(l.Cues)
	for i, c := range l.Cues {
		l.Cues[i] = copyOfCue(c)
	}
	return &list{l}
}

// copyOfCue returns a cue that shares no memory with another one.
func copyOfCue(c api.Cue) api.Cue {
	c.Moves, c.Parts = slices.Clone(c.Moves), slices.Clone(c.Parts)
	return c
}

// forward yields the cues from the first one on.
func (l list) forward() iter.Seq2[int, api.Cue] {
	return slices.All(l.Cues)
}

// backward yields the cues from the last one back.
func (l list) backward() iter.Seq2[int, api.Cue] {
	return slices.Backward(l.Cues)
}

// numbers returns those of the cues for which a function is true.
func (l list) numbers(wanted func(c api.Cue) bool) []string {
	var numbers []string
	for _, c := range l.forward() {
		if wanted(c) {
			numbers = append(numbers, c.Number)
		}
	}
	return numbers
}

// place returns the index that the cue with a number has, or would have, and whether it is there.
func (l list) place(number string) (int, bool) {
	return slices.BinarySearchFunc(l.Cues, number, func(c api.Cue, number string) int { return compare(c.Number, number) })
}

// has reports whether there is a cue with a number.
func (l list) has(number string) bool {
	_, found := l.place(number)
	return found
}

// put adds a cue, which takes the place of the one with its number.
func (l *list) put(c api.Cue) {
	i, found := l.place(c.Number)
	if found {
		l.Cues[i] = c
		return
	}
	l.Cues = slices.Insert(l.Cues, i, c)
}

// drop leaves out the cue with a number, and reports whether it was there.
func (l *list) drop(number string) bool {
	i, found := l.place(number)
	if found {
		l.Cues = slices.Delete(l.Cues, i, i+1)
	}
	return found
}

// renumber gives another number to a cue that is there, and to all links to it.
func (l *list) renumber(from, to string) {
	for i, c := range l.forward() {
		if c.Link == from {
			l.Cues[i].Link = to
		}
	}
	i, _ := l.place(from)
	c := l.Cues[i]
	c.Number = to
	l.drop(from)
	l.put(c)
}

// next returns the number of the first cue that is yielded and for which a function is true, and whether there is one.
func next(cues iter.Seq2[int, api.Cue], wanted func(c api.Cue) bool) (string, bool) {
	for _, c := range cues {
		if wanted(c) {
			return c.Number, true
		}
	}
	return "", false
}

func anyCue(c api.Cue) bool { return true }

// refers reports whether a move of a right cue refers to a palette.
func refers(c api.Cue, number int) bool {
	entries, _ := cue.Entries(c)
	used, _ := palette.Used(entries)
	return slices.Contains(used, number)
}

// compare compares right numbers of cues.
func compare(a, b string) int {
	order, _ := number.Compare(a, b)
	return order
}
