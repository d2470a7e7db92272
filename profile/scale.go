package profile

import (
	"sort"

	"luminaire/api"
	"luminaire/curve"
	"luminaire/level"
	"luminaire/ratio"
)

// scale leads from levels to raw values: through a curve, and then to the range from low to high.
type scale struct {
	curve     []api.Point
	low, high int
}

// scaleOf returns the scale of a feature that has been checked.
func scaleOf(f api.Feature, curves [][]api.Point) scale {
	s := scale{curve.Straight(), f.Low, f.High}
	if f.Curve > 0 {
		s.curve = curves[f.Curve-1]
	}
	return s
}

// raw returns the raw value at a number from 0 to MaxLevel.
func (s scale) raw(v api.Rat) (int, api.Errno) {
	value, e := curve.At(s.curve, v)
	if e != api.OK {
		return 0, e
	}
	part, e := ratio.Div(value, ratio.Whole(api.MaxLevel))
	if e != api.OK {
		return 0, e
	}
	exact, e := ratio.Mix(ratio.Whole(s.low), ratio.Whole(s.high), part)
	if e != api.OK {
		return 0, e
	}
	return level.Sixteen(exact)
}

// level returns the least level with a raw value.
func (s scale) level(raw int) (int, api.Errno) {
	for i, end := range s.curve[1:] {
		if v, found := s.search(s.curve[i].X, end.X, raw); found {
			return v, api.OK
		}
	}
	return 0, api.ErrEmpty
}

// search returns the least level of those between two points of the curve that has a raw value.
func (s scale) search(from, to, raw int) (v int, found bool) {
	at := func(v int) int {
		n, _ := s.raw(ratio.Whole(v)) // there are no errors for levels
		return n
	}
	descends := at(from) > at(to)
	v = from + sort.Search(to-from, func(i int) bool {
		n := at(from + i)
		return n == raw || n > raw != descends
	})
	return v, at(v) == raw
}
