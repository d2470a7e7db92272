package lexer

import "strings"

// class tells which bytes belong to a part of a text.
type class func(b byte) bool

// between returns the class of the bytes from low to high.
func between(low, high byte) class {
	return func(b byte) bool { return low <= b && b <= high }
}

// oneOf returns the class of the bytes of a text.
func oneOf(bytes string) class {
	return func(b byte) bool { return strings.IndexByte(bytes, b) >= 0 }
}

// or returns the class of the bytes that one or the other class has.
func (c class) or(other class) class {
	return func(b byte) bool { return c(b) || other(b) }
}

// but returns the class of the bytes that the other class does not have.
func (c class) but(other class) class {
	return func(b byte) bool { return c(b) && !other(b) }
}

func digit() class {
	return between('0', '9')
}

func letter() class {
	return between('a', 'z').or(between('A', 'Z'))
}

// behindLetter returns the class of the bytes of a word but its first one.
func behindLetter() class {
	return letter().or(digit()).or(oneOf(underscore))
}

// insideQuotes returns the class of the bytes between two double quotes.
func insideQuotes() class {
	return between(' ', '~').but(oneOf(quote))
}
