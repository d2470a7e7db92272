package cue

import (
	"cmp"

	"luminaire/api"
	"luminaire/number"
	"luminaire/palette"
	"luminaire/parameter"
)

const (
	firstPrintable = ' '
	lastPrintable  = '~'
	quote          = '"'
	waiting        = -1 // instead of a time in Follow
	maxLoops       = 100
)

// Moves returns OK for lists of moves.
func Moves(l []api.Move) api.Errno {
	if len(l) > api.MaxMoves {
		return api.ErrMany
	}
	for i, m := range l {
		if e := cmp.Or(parameter.Check(m.Param), palette.Value(m.Value)); e != api.OK {
			return e
		}
		switch {
		case !inRange(m.Part, 1, api.MaxParts):
			return api.ErrRange
		case i > 0 && parameter.Compare(m.Param, l[i-1].Param) <= 0:
			return api.ErrOrder
		}
	}
	return api.OK
}

// Check returns OK for cues.
func Check(c api.Cue) api.Errno {
	for _, check := range []func(c api.Cue) api.Errno{checkNames, checkMoves, checkParts, checkPartsOfMoves, checkNext} {
		if e := check(c); e != api.OK {
			return e
		}
	}
	return api.OK
}

func checkNames(c api.Cue) api.Errno {
	if e := number.Check(c.Number); e != api.OK {
		return e
	}
	if len(c.Label) > api.MaxName {
		return api.ErrLong
	}
	for i := range len(c.Label) {
		if b := c.Label[i]; b < firstPrintable || b > lastPrintable || b == quote {
			return api.ErrForm
		}
	}
	return api.OK
}

func checkMoves(c api.Cue) api.Errno {
	return Moves(c.Moves)
}

func checkParts(c api.Cue) api.Errno {
	switch {
	case len(c.Parts) == 0:
		return api.ErrEmpty
	case len(c.Parts) > api.MaxParts:
		return api.ErrMany
	}
	for _, t := range c.Parts {
		for _, time := range [...]int{t.Up, t.Down, t.Position, t.Colour, t.Beam, t.Delay} {
			if !inRange(time, 0, api.MaxTime) {
				return api.ErrRange
			}
		}
	}
	return api.OK
}

// checkPartsOfMoves returns the error of moves whose parts do not exist. It relies on the checks of moves and parts.
func checkPartsOfMoves(c api.Cue) api.Errno {
	e := api.OK
moves:
	for _, m := range c.Moves {
		for part := 1; part != m.Part; part++ {
			if part == len(c.Parts) {
				e = api.ErrNone
				break moves
			}
		}
	}
	return e
}

// checkNext returns the error of what says which cue comes next.
func checkNext(c api.Cue) api.Errno {
	if c.Follow != waiting && !inRange(c.Follow, api.FrameTime, api.MaxTime) {
		return api.ErrRange
	}
	if c.Link != "" {
		if e := number.Check(c.Link); e != api.OK {
			return e
		}
	}
	switch {
	case !inRange(c.Loops, 0, maxLoops):
		return api.ErrRange
	case c.Loops > 0 && c.Link == "":
		return api.ErrUse
	}
	return api.OK
}

// inRange reports whether an int is from one to another.
func inRange(n, least, most int) bool {
	return least <= n && n <= most
}
