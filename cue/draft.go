package cue

import (
	"slices"

	"luminaire/api"
	"luminaire/parameter"
)

// draft is a copy of a cue, which its methods change.
type draft api.Cue

func draftOf(c api.Cue) *draft {
	d := draft(c)
	d.Moves, d.Parts = slices.Clone(c.Moves), slices.Clone(c.Parts)
	return &d
}

// hasPart reports whether there is a part with a number.
func (d *draft) hasPart(part int) bool {
	return inRange(part, 1, len(d.Parts))
}

// put adds a move, which takes the place of the one with its parameter.
func (d *draft) put(m api.Move) {
	i, found := place(d.Moves, m.Param)
	if found {
		d.Moves[i] = m
		return
	}
	d.Moves = slices.Insert(d.Moves, i, m)
}

// drop leaves out the move of a parameter, if there is one.
func (d *draft) drop(p api.Param) {
	if i, found := place(d.Moves, p); found {
		d.Moves = slices.Delete(d.Moves, i, i+1)
	}
}

// dropPart leaves out a part without moves, and numbers the parts behind it anew.
func (d *draft) dropPart(part int) {
	d.Parts = slices.Delete(d.Parts, part-1, part)
	for i, m := range d.Moves {
		if m.Part > part {
			d.Moves[i].Part--
		}
	}
}

// movesOf returns the moves of a part.
func (d *draft) movesOf(part int) []api.Move {
	return slices.DeleteFunc(slices.Clone(d.Moves), func(m api.Move) bool { return m.Part != part })
}

// place returns the index that the move of a parameter has in a list, or would have, and whether it is there.
func place(l []api.Move, p api.Param) (int, bool) {
	return slices.BinarySearchFunc(l, p, func(m api.Move, p api.Param) int { return parameter.Compare(m.Param, p) })
}

// each hands elements to a function, one after the other.
func each[T any](l []T, do func(x T)) {
	for _, x := range l {
		do(x)
	}
}
