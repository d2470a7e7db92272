package colour

import (
	"luminaire/api"
	"luminaire/level"
)

// palette tells of each attribute whether it is one of the primaries.
type palette [api.Attrs]bool

// outputs has the levels of the primaries by their attributes, and 0 for all other attributes.
type outputs [api.Attrs]int

// lights returns the primaries that give red, green and blue.
func lights() [3]int {
	return [3]int{api.AttrRed, api.AttrGreen, api.AttrBlue}
}

// dyes returns the primaries that take red, green and blue away.
func dyes() [3]int {
	return [3]int{api.AttrCyan, api.AttrMagenta, api.AttrYellow}
}

// paletteOf returns the palette of a list of attributes.
func paletteOf(attrs []int) (palette, api.Errno) {
	if len(attrs) > api.Attrs {
		return palette{}, api.ErrMany
	}
	var p palette
	for _, attr := range attrs {
		switch {
		case attr < api.AttrRed || attr > api.AttrYellow:
			return palette{}, api.ErrArg
		case p[attr]:
			return palette{}, api.ErrTwice
		}
		p[attr] = true
	}
	if !p.isAdditive() && !p.has(dyes()) {
		return palette{}, api.ErrNone
	}
	return p, api.OK
}

// has reports whether a palette has all of three primaries.
func (p palette) has(primaries [3]int) bool {
	for _, attr := range primaries {
		if !p[attr] {
			return false
		}
	}
	return true
}

// isAdditive reports whether colours are sums of lights. Palettes that have dyes too are additive.
func (p palette) isAdditive() bool {
	return p.has(lights())
}

// mix returns the levels that make a colour.
func (p palette) mix(rgb [3]int) outputs {
	var l outputs
	if !p.isAdditive() {
		for i, attr := range dyes() {
			l[attr] = api.MaxLevel - rgb[i]
		}
		return l
	}
	if p[api.AttrWhite] {
		l[api.AttrWhite] = least(rgb)
	}
	for i, attr := range lights() {
		l[attr] = rgb[i] - l[api.AttrWhite]
	}
	return l
}

// light returns the colour that levels make.
func (p palette) light(l outputs) [3]int {
	var rgb [3]int
	if !p.isAdditive() {
		for i, attr := range dyes() {
			rgb[i] = api.MaxLevel - l[attr]
		}
		return rgb
	}
	for i, attr := range lights() {
		rgb[i] = min(api.MaxLevel, l[attr]+l[api.AttrWhite])
	}
	return rgb
}

// checkLevels returns OK if all of some ints are levels.
func checkLevels(l []int) api.Errno {
	for _, v := range l {
		if e := level.Check(v); e != api.OK {
			return e
		}
	}
	return api.OK
}
