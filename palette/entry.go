package palette

import (
	"cmp"
	"slices"

	"luminaire/api"
)

// Used returns the numbers of the palettes that entries refer to.
func Used(l []api.Entry) ([]int, api.Errno) {
	if e := Entries(l); e != api.OK {
		return nil, e
	}
	var numbers []int
	for _, x := range kept(l, refers) {
		numbers = append(numbers, x.Value.Palette)
	}
	slices.Sort(numbers)
	return slices.Compact(numbers), api.OK
}

// Flat returns the entries with levels, or home, instead of references.
func Flat(l []api.Palette, entries []api.Entry) ([]api.Entry, api.Errno) {
	if e := cmp.Or(Check(l), Entries(entries)); e != api.OK {
		return nil, e
	}
	var flat []api.Entry
	for _, x := range entries {
		flat = append(flat, resolved(l, x))
	}
	return flat, api.OK
}

// Missing returns the parameters with references for which there is no hue.
func Missing(l []api.Palette, entries []api.Entry) ([]api.Param, api.Errno) {
	if e := cmp.Or(Check(l), Entries(entries)); e != api.OK {
		return nil, e
	}
	var missing []api.Param
	for _, x := range kept(entries, refers) {
		if _, found := hueOf(l, x.Value.Palette, x.Param); !found {
			missing = append(missing, x.Param)
		}
	}
	return missing, api.OK
}

// refers reports whether an entry refers to a palette.
func refers(x api.Entry) bool {
	return isReference(x.Value)
}

// resolved returns an entry with a level, or home, instead of a reference.
func resolved(l []api.Palette, x api.Entry) api.Entry {
	if !refers(x) {
		return x
	}
	h, found := hueOf(l, x.Value.Palette, x.Param)
	if !found {
		return api.Entry{Param: x.Param, Value: api.Value{Palette: home}}
	}
	return api.Entry{Param: x.Param, Value: api.Value{Level: h.Level}}
}
