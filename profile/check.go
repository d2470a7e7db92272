package profile

import (
	"slices"

	"luminaire/api"
	"luminaire/curve"
	"luminaire/level"
	"luminaire/lexer"
)

// check returns the error of one part of the rules for features.
type check func(f api.Feature) api.Errno

// first returns the first error of some checks.
func first(checks []check, f api.Feature) api.Errno {
	for _, c := range checks {
		if e := c(f); e != api.OK {
			return e
		}
	}
	return api.OK
}

// places knows which attributes and offsets the features of a profile have of which it has seen the checks.
type places struct {
	footprint      int
	attrs, offsets map[int]bool
}

func newPlaces(footprint int) places {
	return places{footprint, map[int]bool{}, map[int]bool{}}
}

// checks returns those that depend on the profile, and on the features before.
func (p places) checks() []check {
	return []check{checkAttr, p.checkNewAttr, checkBits, p.checkInside, checkFine, p.checkUse}
}

// curveChecks returns the check that depends on the curves of the show.
func curveChecks(curves [][]api.Point) []check {
	return []check{func(f api.Feature) api.Errno {
		if f.Curve < 0 || f.Curve > len(curves) {
			return api.ErrNone
		}
		return api.OK
	}}
}

// innerChecks returns those that depend on the feature alone.
func innerChecks() []check {
	return []check{checkHome, checkLimits, checkWheel}
}

// checkAlone returns the error of a feature without its profile and the curves of the show.
func checkAlone(f api.Feature) api.Errno {
	return first(append([]check{checkBits}, innerChecks()...), f)
}

// checkWithCurves returns the error of a feature without its profile.
func checkWithCurves(f api.Feature, curves [][]api.Point) api.Errno {
	if e := checkCurves(curves); e != api.OK {
		return e
	}
	return first(slices.Concat([]check{checkBits}, curveChecks(curves), innerChecks()), f)
}

// checkCurves returns the error of the curves of a show.
func checkCurves(curves [][]api.Point) api.Errno {
	if len(curves) > api.MaxCurves {
		return api.ErrMany
	}
	for _, c := range curves {
		if e := curve.Check(c); e != api.OK {
			return e
		}
	}
	return api.OK
}

// isName reports whether a text is a name. Names are the words of commands without double quotes.
func isName(s string) bool {
	return lexer.Word(s) == api.OK
}

func isAttr(attr int) bool {
	return 0 <= attr && attr < api.Attrs
}

func checkAttr(f api.Feature) api.Errno {
	if !isAttr(f.Attr) {
		return api.ErrArg
	}
	return api.OK
}

func (p places) checkNewAttr(f api.Feature) api.Errno {
	if p.attrs[f.Attr] {
		return api.ErrTwice
	}
	p.attrs[f.Attr] = true
	return api.OK
}

func checkBits(f api.Feature) api.Errno {
	if f.Bits != 8 && f.Bits != 16 {
		return api.ErrArg
	}
	return api.OK
}

// offsets returns those of the bytes of a feature.
func offsets(f api.Feature) []int {
	if f.Bits == 8 {
		return []int{f.Coarse}
	}
	return []int{f.Coarse, f.Fine}
}

func (p places) checkInside(f api.Feature) api.Errno {
	for _, offset := range offsets(f) {
		if offset < 0 || offset >= p.footprint {
			return api.ErrRange
		}
	}
	return api.OK
}

func checkFine(f api.Feature) api.Errno {
	if f.Bits == 8 && f.Fine != 0 {
		return api.ErrForm
	}
	return api.OK
}

func (p places) checkUse(f api.Feature) api.Errno {
	for _, offset := range offsets(f) {
		if p.offsets[offset] {
			return api.ErrUse
		}
		p.offsets[offset] = true
	}
	return api.OK
}

func checkHome(f api.Feature) api.Errno {
	return level.Check(f.Home)
}

func checkLimits(f api.Feature) api.Errno {
	most := 1<<8 - 1
	if f.Bits == 16 {
		most = 1<<16 - 1
	}
	if f.Low < 0 || f.Low > f.High || f.High > most {
		return api.ErrRange
	}
	return api.OK
}

func checkWheel(f api.Feature) api.Errno {
	if len(f.Wheel) > api.MaxWheel {
		return api.ErrMany
	}
	names := map[string]bool{}
	for i, s := range f.Wheel {
		switch {
		case !isName(s.Name):
			return api.ErrName
		case names[s.Name]:
			return api.ErrTwice
		case level.Check(s.From) != api.OK || level.Check(s.To) != api.OK || s.From > s.To:
			return api.ErrRange
		case i > 0 && s.From <= f.Wheel[i-1].To:
			return api.ErrOrder
		}
		names[s.Name] = true
	}
	return api.OK
}

// checkRaw returns OK for a raw value that a feature may have.
func checkRaw(f api.Feature, raw int) api.Errno {
	if raw < f.Low || raw > f.High {
		return api.ErrRange
	}
	return api.OK
}
