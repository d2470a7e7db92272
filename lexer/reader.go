package lexer

import (
	"strings"

	"luminaire/api"
)

const (
	blank      = " "
	quote      = `"`
	point      = "."
	underscore = "_"
	signs      = "+-/.,@:=%()"
)

// reader reads a text from left to right, up to the offset at, which is that of the error if there is one.
type reader struct {
	text string
	at   int
}

// next reads one byte if it is of a class.
func (r *reader) next(is class) bool {
	if r.at == len(r.text) || !is(r.text[r.at]) {
		return false
	}
	r.at++
	return true
}

// run reads all bytes up to the first one that is not of a class, and returns how many these are.
func (r *reader) run(is class) int {
	start := r.at
	for r.next(is) {
	}
	return r.at - start
}

// token reads the next token.
func (r *reader) token() (api.Token, api.Errno) {
	r.run(oneOf(blank))
	start := r.at
	kind, e := r.kind()
	if e != api.OK {
		r.at = start
		return api.Token{}, e
	}
	text := r.text[start:r.at]
	if kind == api.TokenWord && !isQuoted(text) {
		text = strings.ToLower(text)
	}
	return api.Token{Kind: kind, Text: text, At: start}, api.OK
}

// kind reads the bytes of a token, and returns its kind.
func (r *reader) kind() (int, api.Errno) {
	switch {
	case r.at == len(r.text):
		return api.TokenEnd, api.OK
	case r.next(letter()):
		r.run(behindLetter())
		return api.TokenWord, api.OK
	case r.next(oneOf(quote)):
		r.run(insideQuotes())
		if !r.next(oneOf(quote)) {
			return 0, api.ErrSyntax
		}
		return api.TokenWord, api.OK
	case r.next(digit()):
		r.run(digit())
		r.decimals()
		return api.TokenNumber, api.OK
	case r.next(oneOf(signs)):
		return api.TokenSign, api.OK
	}
	return 0, api.ErrSyntax
}

// decimals reads a point and the digits behind it. A point without digits is not read, since it is a token of its own.
func (r *reader) decimals() {
	start := r.at
	if r.next(oneOf(point)) && r.run(digit()) == 0 {
		r.at = start
	}
}

// isToken reports whether a text is, as a whole, that of a token of a kind.
func isToken(s string, kind int) bool {
	r := reader{text: s}
	t, e := r.token()
	return e == api.OK && t.Kind == kind && t.Text == s
}

// isQuoted reports whether the text of a token is one in double quotes.
func isQuoted(s string) bool {
	return strings.HasPrefix(s, quote)
}
