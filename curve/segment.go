package curve

import (
	"iter"

	"luminaire/api"
	"luminaire/integer"
	"luminaire/ratio"
)

// segment is what is between a point of a curve and the next one.
type segment struct{ from, to api.Point }

// segments visits the points of a curve but the last one, each with the next one.
func segments(c []api.Point) iter.Seq[segment] {
	return func(yield func(segment) bool) {
		for i, p := range c[1:] {
			if !yield(segment{c[i], p}) {
				return
			}
		}
	}
}

// width returns how far a segment goes along the X.
func (s segment) width() int {
	return s.to.X - s.from.X
}

// rise returns how far it goes up along the Y.
func (s segment) rise() int {
	return s.to.Y - s.from.Y
}

// goesOn reports whether another segment has the same direction.
func (s segment) goesOn(next segment) bool {
	return s.rise()*next.width() == next.rise()*s.width()
}

// at returns the value of a segment at a number that is not before its first X, nor behind its last one.
func (s segment) at(v api.Rat) (api.Rat, api.Errno) {
	if s.rise() >= 0 {
		return s.climb(v)
	}
	// Seen from behind, a segment that descends is one that ascends.
	behind, e := ratio.Neg(v)
	if e != api.OK {
		return "", e
	}
	seen := segment{api.Point{X: -s.to.X, Y: s.to.Y}, api.Point{X: -s.from.X, Y: s.from.Y}}
	return seen.climb(behind)
}

// climb returns the value of a segment that does not descend.
//
// Let the slope be up / wide, and v be whole + rest / den. Then the value is (base den + up rest) / (wide den), where
// base is wide times the value at whole. What can be cancelled is cancelled before numbers are multiplied, and what is
// added is never negative: so no long number on the way is longer than the value, and ErrLarge means that the value
// itself has too many digits.
func (s segment) climb(v api.Rat) (api.Rat, api.Errno) {
	var x sheet
	slope, _ := ratio.Part(s.rise(), s.width())
	up, wide := parts(slope)
	num, den := parts(v)
	whole, rest := x.split(num, den)
	base := x.sum(wide, integer.Of(s.from.Y), up, x.do(integer.Sub, whole, integer.Of(s.from.X)))

	// rest and den have no common divisor, so den has those with up alone.
	common := x.do(integer.Gcd, up, den)
	up, den = x.do(integer.Quo, up, common), x.do(integer.Quo, den, common)

	// The common divisors that remain are those of wide, which is short: the remainder of the numerator shows them.
	_, denLeft := x.split(den, wide)
	_, restLeft := x.split(rest, wide)
	common = x.do(integer.Gcd, x.sum(base, denLeft, up, restLeft), wide)
	denWhole, denLeft := x.split(den, common)
	restWhole, restLeft := x.split(rest, common)
	left := x.do(integer.Quo, x.sum(base, denLeft, up, restLeft), common)
	num = x.do(integer.Add, x.sum(base, denWhole, up, restWhole), left)
	den = x.do(integer.Mul, x.do(integer.Quo, wide, common), den)
	if x.e != api.OK {
		return "", x.e
	}
	return ratio.Of(num, den)
}

// parts returns the numerator and the denominator of a rational number that has been checked.
func parts(v api.Rat) (num, den api.Int) {
	num, _ = ratio.Num(v)
	den, _ = ratio.Den(v)
	return num, den
}
