package palette

import (
	"cmp"

	"luminaire/api"
	"luminaire/parameter"
)

const (
	home         = -1 // instead of the number of a palette in a value
	everyChannel = 0  // instead of a channel in a hue
)

// Value returns OK for values.
func Value(v api.Value) api.Errno {
	switch {
	case v.Palette == 0 && isLevel(v.Level):
		return api.OK
	case (v.Palette == home || isReference(v)) && v.Level == 0:
		return api.OK
	}
	return api.ErrRange
}

// Entries returns OK for lists of entries.
func Entries(l []api.Entry) api.Errno {
	if len(l) > api.MaxEvents {
		return api.ErrMany
	}
	for i, x := range l {
		if e := cmp.Or(parameter.Check(x.Param), Value(x.Value)); e != api.OK {
			return e
		}
		if i > 0 && parameter.Compare(x.Param, l[i-1].Param) <= 0 {
			return api.ErrOrder
		}
	}
	return api.OK
}

// Check returns OK for lists of palettes.
func Check(l []api.Palette) api.Errno {
	if len(l) > api.MaxPalettes {
		return api.ErrMany
	}
	for i, x := range l {
		switch {
		case !inRange(x.Number, 1, api.MaxNumber):
			return api.ErrRange
		case i > 0 && x.Number <= l[i-1].Number:
			return api.ErrOrder
		}
		if e := checkHues(x.Hues); e != api.OK {
			return e
		}
	}
	return api.OK
}

// checkHues returns the error of the hues of a palette.
func checkHues(l []api.Hue) api.Errno {
	if len(l) > api.MaxList {
		return api.ErrMany
	}
	for i, h := range l {
		switch {
		case !inRange(h.Channel, everyChannel, api.MaxChannel) || !inRange(h.Attr, 0, api.Attrs-1) || !isLevel(h.Level):
			return api.ErrRange
		case i > 0 && parameter.Compare(keyOf(h), keyOf(l[i-1])) <= 0:
			return api.ErrOrder
		}
	}
	return api.OK
}

// keyOf returns what hues are ordered and found by. It is no parameter where the hue is that of every channel.
func keyOf(h api.Hue) api.Param {
	return api.Param{Channel: h.Channel, Attr: h.Attr}
}

// isReference reports whether a value refers to a palette.
func isReference(v api.Value) bool {
	return inRange(v.Palette, 1, api.MaxNumber)
}

func isLevel(n int) bool {
	return inRange(n, 0, api.MaxLevel)
}

// inRange reports whether an int is from one to another.
func inRange(n, least, most int) bool {
	return least <= n && n <= most
}
