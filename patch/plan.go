package patch

import (
	"slices"

	"luminaire/api"
	"luminaire/lexer"
)

const phases = 3 // of the power

// mark tells of a slot which fixture uses it: one more than its index, or 0 for a slot that is not used.
type mark int

func isUsed(m mark) bool {
	return m != 0
}

// index returns that of the fixture that uses the slot.
func (m mark) index() int {
	return int(m) - 1
}

// plan has profiles by their names, the fixtures that have passed the check, and the marks of their slots.
type plan struct {
	profiles map[string]api.Profile
	fixtures []api.Fixture
	slots    [api.MaxUniverses][api.MaxSlots]mark
}

// planOf returns the plan of fixtures that are patched.
func planOf(l []api.Fixture, profiles []api.Profile) (*plan, api.Errno) {
	if len(profiles) > api.MaxProfiles || len(l) > api.MaxFixtures {
		return nil, api.ErrMany
	}
	p := &plan{profiles: byName(profiles)}
	for _, x := range l {
		if e := p.add(x); e != api.OK {
			return nil, e
		}
	}
	return p, api.OK
}

// byName returns the first profile of each name.
func byName(profiles []api.Profile) map[string]api.Profile {
	named := map[string]api.Profile{}
	for _, p := range profiles {
		if _, found := named[p.Name]; !found {
			named[p.Name] = p
		}
	}
	return named
}

// add adds a fixture, or returns its error.
func (p *plan) add(x api.Fixture) api.Errno {
	if e := checkFields(x); e != api.OK {
		return e
	}
	profile, found := p.profiles[x.Profile]
	switch {
	case !found:
		return api.ErrNone
	case !isFrom1(profile.Footprint, api.MaxSlots) || !fits(x.Address, profile.Footprint):
		return api.ErrRange
	case slices.ContainsFunc(p.fixtures, isPart(x.Channel, x.Part)):
		return api.ErrTwice
	}
	marks := p.marks(x.Universe, x.Address, profile.Footprint)
	if slices.ContainsFunc(marks, isUsed) {
		return api.ErrOverlap
	}
	p.fixtures = append(p.fixtures, x)
	for i := range marks {
		marks[i] = mark(len(p.fixtures))
	}
	return api.OK
}

// marks returns those of the slots of a universe from an address on. They are not copied.
func (p *plan) marks(universe, address, size int) []mark {
	return p.slots[universe-1][address-1:][:size]
}

// checkFields returns the error of a fixture without its profile and the fixtures before.
func checkFields(x api.Fixture) api.Errno {
	switch {
	case !isFrom1(x.Channel, api.MaxChannel) || !isFrom1(x.Part, api.MaxFixtures):
		return api.ErrRange
	case !isFrom1(x.Universe, api.MaxUniverses) || !isFrom1(x.Address, api.MaxSlots) || !isFrom1(x.Phase, phases):
		return api.ErrRange
	case x.Cable != "" && !isName(x.Cable):
		return api.ErrName
	}
	return api.OK
}

// isName reports whether a text is a name. Names are the words of commands without double quotes.
func isName(s string) bool {
	return lexer.Word(s) == api.OK
}

// isFrom1 reports whether an int is from 1 to a limit.
func isFrom1(n, most int) bool {
	return 1 <= n && n <= most
}

// fits reports whether slots from an address on end in their universe. The size is from 1 to MaxSlots.
func fits(address, size int) bool {
	return address+size-1 <= api.MaxSlots
}

// isPart returns the function that reports whether a fixture is a part of a channel.
func isPart(channel, part int) func(x api.Fixture) bool {
	return func(x api.Fixture) bool { return x.Channel == channel && x.Part == part }
}

// isOf returns the function that reports whether a fixture belongs to a channel.
func isOf(channel int) func(x api.Fixture) bool {
	return func(x api.Fixture) bool { return x.Channel == channel }
}

// parts returns the parts of a channel.
func parts(l []api.Fixture, channel int) []api.Fixture {
	belongs := isOf(channel)
	var found []api.Fixture
	for _, x := range l {
		if belongs(x) {
			found = append(found, x)
		}
	}
	slices.SortFunc(found, func(a, b api.Fixture) int { return a.Part - b.Part })
	return found
}
