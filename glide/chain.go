package glide

import (
	"iter"
	"slices"

	"luminaire/api"
	"luminaire/ratio"
)

// Knot is a moment with a level.
type Knot struct {
	At    int
	Level api.Rat
}

// successors visits the elements of a list, each with those behind it: the first of these is its successor.
func successors[T any](l []T) iter.Seq2[T, []T] {
	return func(yield func(T, []T) bool) {
		for i, element := range l {
			if !yield(element, l[i+1:]) {
				return
			}
		}
	}
}

// Chain returns OK for glides that overtake each other without jumps.
func Chain(l []api.Glide) api.Errno {
	if len(l) > api.MaxList {
		return api.ErrMany
	}
	for i, g := range l {
		if e := Check(g); e != api.OK {
			return e
		}
		if i == 0 {
			continue
		}
		if e := checkOvertaking(l[i-1], g); e != api.OK {
			return e
		}
	}
	return api.OK
}

// checkOvertaking returns OK if a glide begins where the one before it is at that moment.
func checkOvertaking(before, g api.Glide) api.Errno {
	if g.Start < before.Start {
		return api.ErrOrder
	}
	level, e := At(before, g.Start)
	if e == api.OK && g.From != level {
		return api.ErrForm
	}
	return e
}

// Value returns the level of a chain at a time.
func Value(l []api.Glide, t int) (api.Rat, api.Errno) {
	if e := Chain(l); e != api.OK {
		return "", e
	}
	for g, behind := range successors(l) {
		if len(behind) == 0 || t < behind[0].Start {
			return At(g, t)
		}
	}
	return "", api.ErrEmpty
}

// Knots returns the moments at which a chain bends.
func Knots(l []api.Glide) ([]Knot, api.Errno) {
	if e := Chain(l); e != api.OK {
		return nil, e
	}
	knots := make([]Knot, 0, 2*len(l))
	for g, behind := range successors(l) {
		knots = append(knots, Knot{g.Start, g.From})
		if len(behind) == 0 || behind[0].Start >= end(g) {
			knots = append(knots, Knot{end(g), ratio.Whole(g.To)})
		}
	}
	return slices.Compact(knots), api.OK
}

// checkKnots returns OK for knots in the order of their times.
func checkKnots(l []Knot) api.Errno {
	if len(l) > 2*api.MaxList {
		return api.ErrMany
	}
	for i, k := range l {
		if e := checkInts(limit{k.At, 2 * api.MaxTime}); e != api.OK {
			return e
		}
		if e := checkLevel(k.Level); e != api.OK {
			return e
		}
		if i > 0 && k.At < l[i-1].At {
			return api.ErrOrder
		}
	}
	return api.OK
}

// Read returns the level at a time that knots give.
func Read(l []Knot, t int) (api.Rat, api.Errno) {
	if e := checkKnots(l); e != api.OK {
		return "", e
	}
	for k, behind := range successors(l) {
		switch {
		case len(behind) == 0 || t < k.At:
			return k.Level, api.OK
		case t < behind[0].At:
			return between(k.Level, behind[0].Level, t-k.At, behind[0].At-k.At)
		}
	}
	return "", api.ErrEmpty
}
