package group

import "luminaire/api"

// Fan returns the levels of members from one to another.
func Fan(from, to, n int) ([]int, api.Errno) {
	return spread(from, to, n, n-1, func(i int) int { return i })
}

// Centre returns the levels of members from one in the centre to another at both ends.
func Centre(from, to, n int) ([]int, api.Errno) {
	least := (n + 1) % 2 // distance from the centre, in halves of the one between neighbours
	return spread(from, to, n, n-1-least, func(i int) int { return max(2*i-(n-1), n-1-2*i) - least })
}

// spread returns the levels of n members. A function returns how many of the steps each one is away from the first level.
func spread(from, to, n, steps int, away func(i int) int) ([]int, api.Errno) {
	if !inRange(from, 0, api.MaxLevel) || !inRange(to, 0, api.MaxLevel) || !inRange(n, 0, api.MaxList) {
		return nil, api.ErrRange
	}
	steps = max(steps, 1) // without steps no member is away from the first level
	var levels []int
	for i := range n {
		levels = append(levels, mix(from, to, away(i), steps))
	}
	return levels, api.OK
}

// mix returns the level at a part of the steps from one to another, rounded half up.
func mix(from, to, part, steps int) int {
	whole := from*(steps-part) + to*part // which is not negative, so that it is rounded down by the division
	return (2*whole + steps) / (2 * steps)
}
