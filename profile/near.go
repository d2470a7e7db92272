package profile

import (
	"luminaire/api"
	"luminaire/integer"
	"luminaire/level"
	"luminaire/ratio"
)

// finest is a denominator that no number exceeds at which a raw value changes: such a number has a divisor of
// 2 (High - Low) times the rise of the curve between two points.
const finest = 2 * api.MaxLevel * api.MaxLevel

// clamp returns 0 for numbers that are less, MaxLevel for those that are greater, and others as they are.
func clamp(v api.Rat) (api.Rat, api.Errno) {
	if _, e := level.Sixteen(v); e != api.ErrRange {
		return v, e
	}
	num, _ := ratio.Num(v)
	if sign, _ := integer.Sign(num); sign < 0 {
		return ratio.Whole(0), api.OK
	}
	return ratio.Whole(api.MaxLevel), api.OK
}

// near returns a number that has the same raw values as a number from 0 to MaxLevel, but few digits, so that everything
// can be computed with it.
//
// The quotients of Euclid's algorithm lead to fractions that lie on both sides of the number in turn. Between two of
// them, one behind the other, every fraction has a denominator of at least the sum of theirs. So nothing at which a raw
// value changes lies between the number and the first fraction with a denominator greater than finest. This holds for
// lesser quotients as well: what is beyond that denominator is left out.
func near(v api.Rat) api.Rat {
	num, _ := ratio.Num(v)
	den, _ := ratio.Den(v)
	if _, e := integer.Small(den); e == api.OK {
		return v
	}
	lastTop, top := 0, 1
	lastBottom, bottom := 1, 0
	for den != "0" && bottom <= finest {
		quotient, _ := integer.Quo(num, den)
		times := atMost(quotient, finest/max(bottom, 1)+1)
		lastTop, top = top, times*top+lastTop
		lastBottom, bottom = bottom, times*bottom+lastBottom
		rest, _ := integer.Rem(num, den)
		num, den = den, rest
	}
	short, _ := ratio.Part(top, bottom)
	return short
}

// atMost returns an integer that is not negative, or a limit if it is greater.
func atMost(a api.Int, limit int) int {
	n, e := integer.Small(a)
	if e != api.OK {
		return limit
	}
	return min(n, limit)
}
