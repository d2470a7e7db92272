package universe

import "luminaire/api"

// place is a feature of a fixture.
type place struct {
	fixture api.Fixture
	feature api.Feature
}

// placesOf returns all places of a rig that has been checked.
func placesOf(g Rig) []place {
	profiles := map[string]api.Profile{}
	for _, p := range g.Profiles {
		profiles[p.Name] = p
	}
	var places []place
	for _, x := range g.Fixtures {
		for _, f := range profiles[x.Profile].Features {
			places = append(places, place{x, f})
		}
	}
	return places
}

// param returns the parameter that a place shows.
func (p place) param() api.Param {
	return api.Param{Channel: p.fixture.Channel, Attr: p.feature.Attr}
}

// addresses returns those of the bytes, the upper one first.
func (p place) addresses() []int {
	coarse, fine := p.fixture.Address+p.feature.Coarse, p.fixture.Address+p.feature.Fine
	if p.feature.Bits == 8 {
		return []int{coarse}
	}
	return []int{coarse, fine}
}

// isOutside reports whether the feature may not have a raw value.
func (p place) isOutside(raw int) bool {
	return raw < p.feature.Low || raw > p.feature.High
}
