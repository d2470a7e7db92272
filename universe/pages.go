package universe

import (
	"maps"
	"slices"

	"luminaire/api"
)

// pages has the slots of universes by their numbers.
type pages map[int][]byte

// pagesOf returns the slots of right frames.
func pagesOf(l []api.Frame) pages {
	p := pages{}
	for _, f := range l {
		p[f.Universe] = []byte(f.Slots)
	}
	return p
}

// blank returns slots that are 0, for the universes of fixtures.
func blank(l []api.Fixture) pages {
	p := pages{}
	for _, x := range l {
		p[x.Universe] = make([]byte, api.MaxSlots)
	}
	return p
}

// frames returns the frames with the slots.
func (p pages) frames() []api.Frame {
	var l []api.Frame
	for _, universe := range slices.Sorted(maps.Keys(p)) {
		l = append(l, api.Frame{Universe: universe, Slots: string(p[universe])})
	}
	return l
}

// has reports whether there is a universe.
func (p pages) has(universe int) bool {
	return p[universe] != nil
}

// byteAt returns the byte of a slot.
func (p pages) byteAt(universe, address int) int {
	return int(p[universe][address-1])
}

// setter returns the function that sets the byte of a slot.
func (p pages) setter() func(universe, address, value int) {
	return func(universe, address, value int) { p[universe][address-1] = byte(value) }
}

// raw returns the raw value at a place.
func (p pages) raw(at place) int {
	raw := 0
	for _, address := range at.addresses() {
		raw = raw<<8 | p.byteAt(at.fixture.Universe, address)
	}
	return raw
}
