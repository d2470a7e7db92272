package tracking

import (
	"iter"
	"maps"
	"slices"

	"luminaire/api"
	"luminaire/parameter"
)

const home = -1 // instead of the number of a palette in a value

// origin is the cue that moved a parameter last, with the value of the move.
type origin struct {
	cue   string
	value api.Value
}

// footprintOf returns the parameters that cues move, in ascending order.
func footprintOf(cues []api.Cue) []api.Param {
	moved := map[api.Param]bool{}
	for _, c := range cues {
		for _, m := range c.Moves {
			moved[m.Param] = true
		}
	}
	return slices.SortedFunc(maps.Keys(moved), parameter.Compare)
}

// lookOf returns the values of parameters in the last of some cues, behind which there may be more. Without cues all values are home.
func lookOf(params []api.Param, cues []api.Cue) []api.Entry {
	origins := originsOf(cues)
	var look []api.Entry
	for _, p := range params {
		x := api.Entry{Param: p, Value: api.Value{Palette: home}}
		if o, found := origins[p]; found {
			x.Value = o.value
		}
		look = append(look, x)
	}
	return look
}

// originsOf returns the origins that parameters have in the last of some cues.
func originsOf(cues []api.Cue) map[api.Param]origin {
	origins := map[api.Param]origin{}
	for c := range counting(cues) {
		for _, m := range c.Moves {
			if _, found := origins[m.Param]; !found {
				origins[m.Param] = origin{c.Number, m.Value}
			}
		}
	}
	return origins
}

// counting yields the cues that count for the last one, from this one backwards up to a cue with Block.
func counting(cues []api.Cue) iter.Seq[api.Cue] {
	return func(yield func(c api.Cue) bool) {
		for _, c := range slices.Backward(cues) {
			if !yield(c) || c.Block {
				return
			}
		}
	}
}
