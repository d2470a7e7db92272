package ratio

import (
	"strings"

	"luminaire/api"
	"luminaire/integer"
)

// fraction is a numerator and a denominator, which is not 0.
type fraction struct{ num, den api.Int }

// operation computes a fraction, which need not be reduced, from two others.
type operation func(a, b fraction) (result fraction, e api.Errno)

// first returns the first error of any number of them, or OK. The callers compute on with the zero values that stand
// beside an error: what fails because of them comes later, and is not seen.
func first(errors ...api.Errno) (e api.Errno) {
	for _, e = range errors {
		if e != api.OK {
			return e
		}
	}
	return api.OK
}

// read returns the fraction of a rational number.
func read(a api.Rat) (f fraction, e api.Errno) {
	num, den, found := strings.Cut(string(a), "/")
	if found {
		f = fraction{api.Int(num), api.Int(den)}
		e = f.check()
	} else {
		f = fraction{api.Int(num), "1"}
		e = integer.Check(f.num)
	}
	if e != api.OK {
		return fraction{}, e
	}
	return f, api.OK
}

// readBoth returns the fractions of two rational numbers.
func readBoth(a, b api.Rat) (f, g fraction, e api.Errno) {
	f, e1 := read(a)
	g, e2 := read(b)
	return f, g, first(e1, e2)
}

// check returns OK for a fraction that is written with a slash.
func (f fraction) check() api.Errno {
	num, den := integer.Check(f.num), integer.Check(f.den)
	switch {
	case num == api.ErrForm || den == api.ErrForm:
		return api.ErrForm
	case f.den == "0" || f.den == "1" || strings.HasPrefix(string(f.den), "-"):
		return api.ErrForm
	case num != api.OK || den != api.OK:
		return api.ErrLarge
	}
	if divisor, e := integer.Gcd(f.num, f.den); e != api.OK || divisor != "1" {
		return api.ErrForm
	}
	return api.OK
}

// write returns the rational number of a fraction of integers that have been checked.
func (f fraction) write() api.Rat {
	divisor, _ := integer.Gcd(f.num, f.den)
	if strings.HasPrefix(string(f.den), "-") {
		divisor = "-" + divisor
	}
	num, _ := integer.Quo(f.num, divisor)
	den, _ := integer.Quo(f.den, divisor)
	if den == "1" {
		return api.Rat(num)
	}
	return api.Rat(num + "/" + den)
}

// operations returns the four operations by their signs.
func operations() map[rune]operation {
	return map[rune]operation{
		'+': func(a, b fraction) (fraction, api.Errno) { return a.join(integer.Add, b) },
		'-': func(a, b fraction) (fraction, api.Errno) { return a.join(integer.Sub, b) },
		'*': fraction.times,
		'/': func(a, b fraction) (fraction, api.Errno) {
			if b.num == "0" {
				return fraction{}, api.ErrZero
			}
			return a.times(fraction{b.den, b.num})
		},
	}
}

// calculate returns the result of the operation with a sign.
func calculate(a api.Rat, sign rune, b api.Rat) (result api.Rat, e api.Errno) {
	f, g, e := readBoth(a, b)
	if e != api.OK {
		return "", e
	}
	h, e := operations()[sign](f, g)
	if e != api.OK {
		return "", e
	}
	return h.write(), api.OK
}

// cross returns the numerators of two fractions over the product of their denominators.
func (f fraction) cross(g fraction) (left, right api.Int, e api.Errno) {
	left, e1 := integer.Mul(f.num, g.den)
	right, e2 := integer.Mul(g.num, f.den)
	return left, right, first(e1, e2)
}

// join returns the sum or the difference.
func (f fraction) join(add func(a, b api.Int) (api.Int, api.Errno), g fraction) (result fraction, e api.Errno) {
	left, right, e1 := f.cross(g)
	num, e2 := add(left, right)
	den, e3 := integer.Mul(f.den, g.den)
	return fraction{num, den}, first(e1, e2, e3)
}

// times returns the product.
func (f fraction) times(g fraction) (result fraction, e api.Errno) {
	num, e1 := integer.Mul(f.num, g.num)
	den, e2 := integer.Mul(f.den, g.den)
	return fraction{num, den}, first(e1, e2)
}
