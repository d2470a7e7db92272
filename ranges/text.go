package ranges

import (
	"strconv"
	"strings"

	"luminaire/api"
)

const (
	blank = ' '
	plus  = "+"
	minus = "-"
	thru  = "thru"
)

// Parse returns the set of a text, or the offset of its first error.
func Parse(s string) ([]Range, int, api.Errno) {
	if len(s) > api.MaxText {
		return nil, 0, api.ErrLong
	}
	r := reader{text: s}
	m, e := r.members()
	if e != api.OK {
		return nil, r.at, e
	}
	return m.set(), 0, api.OK
}

// Format returns the normal text of a set.
func Format(l []Range) (string, api.Errno) {
	if e := Check(l); e != api.OK {
		return "", e
	}
	terms := make([]string, len(l))
	for i, r := range l {
		terms[i] = strconv.Itoa(r.From)
		if r.From < r.To {
			terms[i] += " " + thru + " " + strconv.Itoa(r.To)
		}
	}
	return strings.Join(terms, " "+plus+" "), api.OK
}

// reader reads a text from left to right, up to the offset at, which is that of the error if there is one.
type reader struct {
	text string
	at   int
}

// rest moves behind blanks, and returns what remains to be read.
func (r *reader) rest() string {
	for r.at < len(r.text) && r.text[r.at] == blank {
		r.at++
	}
	return r.text[r.at:]
}

// take reads a word or sign if the rest begins with it.
func (r *reader) take(word string) bool {
	if !strings.HasPrefix(r.rest(), word) {
		return false
	}
	r.at += len(word)
	return true
}

// members reads all terms and the signs between them.
func (r *reader) members() (members, api.Errno) {
	var m members
	if r.rest() == "" {
		return m, api.OK
	}
	for added := true; ; {
		term, e := r.term()
		if e != api.OK {
			return m, e
		}
		m.put([]Range{term}, added)
		switch {
		case r.rest() == "":
			return m, api.OK
		case r.take(plus):
			added = true
		case r.take(minus):
			added = false
		default:
			return m, api.ErrSyntax
		}
	}
}

// term reads a channel, or two with the word thru between.
func (r *reader) term() (Range, api.Errno) {
	from, e := r.channel()
	if e != api.OK || !r.thru() {
		return Range{from, from}, e
	}
	to, e := r.channel()
	return Range{min(from, to), max(from, to)}, e
}

// channel reads a number that must be a channel.
func (r *reader) channel() (int, api.Errno) {
	rest := r.rest()
	n, digits := 0, 0
	for digits < len(rest) && isDigit(rest[digits]) {
		n = min(10*n+int(rest[digits]-'0'), api.MaxChannel+1) // a number above all channels remains so with more digits
		digits++
	}
	switch {
	case digits == 0:
		return 0, api.ErrSyntax
	case !isChannel(n):
		return 0, api.ErrRange
	}
	r.at += digits
	return n, api.OK
}

// thru reads the word thru if it is there. Of a longer word nothing is read, so that the error is at its beginning.
func (r *reader) thru() bool {
	behind, found := strings.CutPrefix(r.rest(), thru)
	longer := behind != "" && (isLetter(behind[0]) || isDigit(behind[0]))
	return found && !longer && r.take(thru)
}

func isDigit(b byte) bool {
	return '0' <= b && b <= '9'
}

func isLetter(b byte) bool {
	return 'a' <= b && b <= 'z' || 'A' <= b && b <= 'Z'
}
