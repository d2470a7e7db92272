// Package ratio implements layer 2: exact rational numbers.
package ratio

import (
	"luminaire/api"
	"luminaire/integer"
)

// Check returns OK for rational numbers.
func Check(a api.Rat) api.Errno {
	_, e := read(a)
	return e
}

// Of returns the quotient of two integers.
func Of(num, den api.Int) (result api.Rat, e api.Errno) {
	if e = first(integer.Check(num), integer.Check(den)); e != api.OK {
		return "", e
	}
	if den == "0" {
		return "", api.ErrZero
	}
	return fraction{num, den}.write(), api.OK
}

// Whole returns an integer.
func Whole(n int) api.Rat {
	return api.Rat(integer.Of(n))
}

// Part returns the quotient of two small integers.
func Part(num, den int) (api.Rat, api.Errno) {
	return Of(integer.Of(num), integer.Of(den))
}

// Num returns the numerator.
func Num(a api.Rat) (num api.Int, e api.Errno) {
	f, e := read(a)
	return f.num, e
}

// Den returns the denominator.
func Den(a api.Rat) (den api.Int, e api.Errno) {
	f, e := read(a)
	return f.den, e
}

// Compare returns -1, 0 or 1.
func Compare(a, b api.Rat) (order int, e api.Errno) {
	f, g, e := readBoth(a, b)
	if e != api.OK {
		return 0, e
	}
	left, right, e := f.cross(g)
	if e != api.OK {
		return 0, e
	}
	return integer.Compare(left, right)
}

// Add returns the sum.
func Add(a, b api.Rat) (api.Rat, api.Errno) {
	return calculate(a, '+', b)
}

// Sub returns the difference.
func Sub(a, b api.Rat) (api.Rat, api.Errno) {
	return calculate(a, '-', b)
}

// Mul returns the product.
func Mul(a, b api.Rat) (api.Rat, api.Errno) {
	return calculate(a, '*', b)
}

// Div returns the quotient.
func Div(a, b api.Rat) (api.Rat, api.Errno) {
	return calculate(a, '/', b)
}

// Neg returns the negative number.
func Neg(a api.Rat) (api.Rat, api.Errno) {
	return Sub("0", a)
}

// Floor returns the greatest integer that is at most a number.
func Floor(a api.Rat) (floor api.Int, e api.Errno) {
	f, e := read(a)
	if e != api.OK {
		return "", e
	}
	return integer.Quo(f.num, f.den)
}

// Round returns the nearest integer, the greater one of two.
func Round(a api.Rat) (nearest api.Int, e api.Errno) {
	f, e := read(a)
	if e != api.OK {
		return "", e
	}
	// There are no errors from here on: twice the remainder could have too many digits, so it is compared with what
	// the denominator has more than it.
	floor, _ := integer.Quo(f.num, f.den)
	below, _ := integer.Rem(f.num, f.den)
	above, _ := integer.Sub(f.den, below)
	if order, _ := integer.Compare(below, above); order < 0 {
		return floor, api.OK
	}
	return integer.Add(floor, "1")
}

// Min returns the lesser one of two numbers.
func Min(a, b api.Rat) (lesser api.Rat, e api.Errno) {
	order, e := Compare(a, b)
	switch {
	case e != api.OK:
		return "", e
	case order < 0:
		return a, api.OK
	}
	return b, api.OK
}

// Max returns the greater one of two numbers.
func Max(a, b api.Rat) (greater api.Rat, e api.Errno) {
	order, e := Compare(a, b)
	switch {
	case e != api.OK:
		return "", e
	case order > 0:
		return a, api.OK
	}
	return b, api.OK
}

// Mix returns the number that lies between two others, at a part of the way.
func Mix(a, b, w api.Rat) (mixed api.Rat, e api.Errno) {
	if e = first(Check(a), Check(b), Check(w)); e != api.OK {
		return "", e
	}
	way, e1 := Sub(b, a)
	step, e2 := Mul(way, w)
	mixed, e3 := Add(a, step)
	if e = first(e1, e2, e3); e != api.OK {
		return "", e
	}
	return mixed, api.OK
}

// Clamp returns the nearest number between two integers.
func Clamp(a api.Rat, low, high int) (nearest api.Rat, e api.Errno) {
	if e = Check(a); e != api.OK {
		return "", e
	}
	if low > high {
		return "", api.ErrRange
	}
	toLow, e1 := Compare(a, Whole(low))
	toHigh, e2 := Compare(a, Whole(high))
	e = first(e1, e2)
	switch {
	case e != api.OK:
		return "", e
	case toLow < 0:
		return Whole(low), api.OK
	case toHigh > 0:
		return Whole(high), api.OK
	}
	return a, api.OK
}
