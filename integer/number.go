package integer

import (
	"strings"

	"luminaire/api"
)

// number is an integer: a magnitude with a sign. 0 is not negative.
type number struct {
	negative bool
	size     words
}

// signed applies an operation on magnitudes, and gives the result a sign.
func signed(negative bool, operation func(words) words, v words) number {
	size := operation(v)
	return number{negative && len(size) > 0, size}
}

// read reads a canonical integer.
func read(a api.Int) number {
	digits, negative := strings.CutPrefix(string(a), "-")
	return number{negative, readWords(digits)}
}

// write returns the integer; ErrLarge if it has too many digits.
func (n number) write() (api.Int, api.Errno) {
	digits := n.size.text()
	switch {
	case len(digits) > api.MaxLong:
		return "", api.ErrLarge
	case n.negative:
		return api.Int("-" + digits), api.OK
	}
	return api.Int(digits), api.OK
}

// compare returns -1, 0 or 1 if n is less than, equal to, or greater than m.
func (n number) compare(m number) int {
	switch {
	case n.negative && m.negative:
		return m.size.compare(n.size)
	case n.negative:
		return -1
	case m.negative:
		return 1
	}
	return n.size.compare(m.size)
}

func (n number) opposite() number {
	return number{!n.negative && len(n.size) > 0, n.size}
}

func (n number) plus(m number) number {
	switch {
	case n.negative == m.negative:
		return signed(n.negative, n.size.plus, m.size)
	case n.size.compare(m.size) >= 0:
		return signed(n.negative, n.size.minus, m.size)
	}
	return signed(m.negative, m.size.minus, n.size)
}

func (n number) minus(m number) number {
	return n.plus(m.opposite())
}

func (n number) times(m number) number {
	return signed(n.negative != m.negative, n.size.times, m.size)
}

// divide returns the quotient, rounded down, and the remainder, for m that is not 0.
func (n number) divide(m number) (quotient, remainder number) {
	size, rest := n.size.divide(m.size)
	opposed := n.negative != m.negative
	if opposed && len(rest) > 0 { // the magnitude was rounded down, so the quotient was rounded up
		size, rest = size.plus(words{1}), m.size.minus(rest)
	}
	return number{opposed && len(size) > 0, size}, number{m.negative && len(rest) > 0, rest}
}

func (n number) quotient(m number) number {
	quotient, _ := n.divide(m)
	return quotient
}

func (n number) remainder(m number) number {
	_, remainder := n.divide(m)
	return remainder
}

// gcd returns the greatest common divisor, which is not negative.
func (n number) gcd(m number) number {
	return signed(false, n.size.gcd, m.size)
}
