package universe

import (
	"cmp"

	"luminaire/api"
	"luminaire/curve"
	"luminaire/glide"
	"luminaire/parameter"
	"luminaire/profile"
)

const (
	maxByte    = 1<<8 - 1
	maxChanges = api.MaxUniverses * api.MaxSlots
)

// checkCurves returns the error of the curves of a rig.
func checkCurves(curves [][]api.Point) api.Errno {
	if len(curves) > api.MaxCurves {
		return api.ErrMany
	}
	for _, c := range curves {
		if e := curve.Check(c); e != api.OK {
			return e
		}
	}
	return api.OK
}

// checkProfiles returns the error of the profiles of a rig.
func checkProfiles(profiles []api.Profile, curves [][]api.Point) api.Errno {
	if len(profiles) > api.MaxProfiles {
		return api.ErrMany
	}
	names := map[string]bool{}
	for _, p := range profiles {
		if e := profile.Check(p, curves); e != api.OK {
			return e
		}
		if names[p.Name] {
			return api.ErrTwice
		}
		names[p.Name] = true
	}
	return api.OK
}

// checkBoth returns the first error of a rig and of frames.
func checkBoth(g Rig, l []api.Frame) api.Errno {
	if e := Check(g); e != api.OK {
		return e
	}
	return Right(l)
}

// checkAmounts returns the error of amounts.
func checkAmounts(l []api.Amount) api.Errno {
	if len(l) > api.MaxEvents {
		return api.ErrMany
	}
	for i, a := range l {
		if e := parameter.Check(a.Param); e != api.OK {
			return e
		}
		// The computed levels are the numbers from which a glide may begin.
		if e := glide.Check(api.Glide{From: a.Level}); e != api.OK {
			return e
		}
		if i > 0 && parameter.Compare(a.Param, l[i-1].Param) <= 0 {
			return api.ErrOrder
		}
	}
	return api.OK
}

// checkChanges returns the error of changes of some slots.
func checkChanges(p pages, l []Change) api.Errno {
	if len(l) > maxChanges {
		return api.ErrMany
	}
	for i, c := range l {
		switch {
		case !isFrom1(c.Address, api.MaxSlots) || c.Byte < 0 || c.Byte > maxByte:
			return api.ErrRange
		case !p.has(c.Universe):
			return api.ErrNone
		case i > 0 && compareChanges(c, l[i-1]) <= 0:
			return api.ErrOrder
		}
	}
	return api.OK
}

// compareChanges compares changes by their universes, and then by their addresses.
func compareChanges(a, b Change) int {
	return cmp.Or(cmp.Compare(a.Universe, b.Universe), cmp.Compare(a.Address, b.Address))
}

// isFrom1 reports whether an int is from 1 to a limit.
func isFrom1(n, most int) bool {
	return 1 <= n && n <= most
}
